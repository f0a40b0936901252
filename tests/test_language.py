"""The package keeps to its small part of Python, as far as its text shows it."""

import ast
import builtins
import pathlib
import re
import unittest

PACKAGE = pathlib.Path(__file__).resolve().parent.parent / "oncewise"

STATEMENTS = (
    ast.Assign, ast.AugAssign, ast.If, ast.While, ast.For, ast.Return, ast.Break, ast.Continue,
    ast.Pass, ast.Raise, ast.Try, ast.FunctionDef, ast.Expr,
)
EXPRESSIONS = (
    ast.Constant, ast.List, ast.Tuple, ast.Dict, ast.Set, ast.BinOp, ast.UnaryOp, ast.BoolOp, ast.Compare,
    ast.IfExp, ast.Call, ast.Attribute, ast.Subscript, ast.Slice, ast.ListComp, ast.JoinedStr,
    ast.FormattedValue, ast.Name, ast.Lambda,
)
PYTHON_NAMES = """
    len range enumerate zip min max sum abs sorted reversed int str bool list tuple dict set frozenset isinstance
    ord repr any all divmod Exception ValueError TypeError KeyError IndexError LookupError ZeroDivisionError
    ArithmeticError OverflowError RuntimeError NotImplementedError AttributeError StopIteration
""".split()
METHODS = """
    append clear copy count endswith extend find get index insert isalnum isalpha isdigit islower isspace isupper
    items join keys ljust lower lstrip partition pop remove replace reverse rfind rjust rpartition rsplit rstrip
    setdefault split splitlines startswith strip update upper values zfill bit_length
""".split()
WALKED_AT_ONCE = ("zip", "enumerate", "reversed", "range", ".items", ".keys", ".values")
WALKERS = ("list", "tuple", "dict", "sorted", "sum", "any", "all", "enumerate", "zip", ".join")
CHANGES = (".append", ".clear", ".extend", ".insert", ".pop", ".remove", ".reverse", ".setdefault", ".update")
OWN_DUNDERS = ("__init__", "__eq__", "__repr__", "__str__", "__len__")
UNUSED_NAMES = ("register", "mro", "elements", "open", "input", "version_info", "with_traceback", "add_note")
BANNED_WORDS = re.compile(
    r"\b(type|typing|typing_extensions|enum|Enum|IntEnum|StrEnum|Flag|IntFlag|Generic|Protocol|ABC|ABCMeta"
    r"|namedtuple|NamedTuple|TypedDict|TYPE_CHECKING|abstractmethod)\b|dataclass|overload|contextmanager"
)


def sources():
    return {path.stem: path.read_text(encoding="utf-8") for path in sorted(PACKAGE.glob("*.py"))}


def trees():
    return {name: ast.parse(text) for name, text in sources().items()}


def defined_in(tree):
    names = [node.name for node in tree.body if isinstance(node, (ast.FunctionDef, ast.ClassDef))]
    return names + [node.targets[0].id for node in tree.body if isinstance(node, ast.Assign)]


def imports_of(tree):
    return [node for node in tree.body if isinstance(node, ast.ImportFrom)]


def bound_names(tree):
    for node in ast.walk(tree):
        if isinstance(node, ast.Name) and isinstance(node.ctx, ast.Store):
            yield node.id
        elif isinstance(node, ast.arg):
            yield node.arg
        elif isinstance(node, (ast.FunctionDef, ast.ClassDef)):
            yield node.name
        elif isinstance(node, ast.Attribute):
            yield node.attr


def is_docstring(node):
    return isinstance(node, ast.Expr) and isinstance(node.value, ast.Constant) and isinstance(node.value.value, str)


class Files(unittest.TestCase):
    def test_only_plain_files(self):
        for path in PACKAGE.iterdir():
            if path.name != "__pycache__":
                self.assertRegex(path.name, r"^(__init__|__main__|[a-z][a-z0-9_]*)\.py$")
                self.assertFalse(path.name.startswith("test"), path.name)

    def test_signs_and_sizes(self):
        for name, text in sources().items():
            lines = text.split("\n")
            self.assertRegex(text, r"\A[ -~\n]*\Z", name)
            self.assertLessEqual(len(lines), 400, name)
            self.assertLessEqual(max([len(line) for line in lines]), 120, name)

    def test_banned_words(self):
        for name, text in sources().items():
            self.assertIsNone(BANNED_WORDS.search(text), name)


class Tops(unittest.TestCase):
    def test_what_stands_at_the_top(self):
        for name, tree in trees().items():
            self.assertTrue(is_docstring(tree.body[0]), name)
            for node in tree.body[1:]:
                self.assertIsInstance(node, (ast.ImportFrom, ast.FunctionDef, ast.ClassDef, ast.Assign), name)
            names = defined_in(tree)
            self.assertEqual(len(names), len(set(names)), name)

    def test_init_binds_no_name(self):
        self.assertEqual(len(trees()["__init__"].body), 1)

    def test_imports_come_from_the_file_that_defines(self):
        known = trees()
        for name, tree in known.items():
            for node in imports_of(tree):
                self.assertEqual((node.level, node.module.split(".")[0]), (0, "oncewise"), name)
                source = node.module.split(".")[1]
                for alias in node.names:
                    self.assertIn(alias.name, defined_in(known[source]), name)

    def test_no_ring_of_imports(self):
        left = {name: {node.module.split(".")[1] for node in imports_of(tree)} for name, tree in trees().items()}
        while left:
            free = [name for name in left if not left[name] & set(left)]
            self.assertNotEqual(free, [], "a ring of imports")
            left = {name: left[name] for name in left if name not in free}

    def test_classes(self):
        for name, tree in trees().items():
            for node in ast.walk(tree):
                if isinstance(node, ast.ClassDef):
                    self.assertIn(node, tree.body, name)
                    self.assertLessEqual(len(node.bases), 1, name)
                    self.assertEqual((node.keywords, node.decorator_list), ([], []), name)
                    for part in node.body:
                        self.assertIsInstance(part, (ast.FunctionDef, ast.Pass), name)


class Defs(unittest.TestCase):
    def test_functions(self):
        for name, tree in trees().items():
            for node in ast.walk(tree):
                if isinstance(node, ast.FunctionDef):
                    where = f"{name}.{node.name}"
                    self.assertLessEqual(node.end_lineno - node.lineno + 1, 40, where)
                    self.assertEqual(node.decorator_list, [], where)
                    spare = (node.args.vararg, node.args.kwarg, node.args.kwonlyargs, node.args.posonlyargs)
                    self.assertEqual(spare, (None, None, [], []), where)

    def test_statements(self):
        for name, tree in trees().items():
            for node in ast.walk(tree):
                where = f"{name}:{getattr(node, 'lineno', 0)}"
                if isinstance(node, ast.stmt) and not isinstance(node, (ast.ImportFrom, ast.ClassDef)):
                    self.assertIsInstance(node, STATEMENTS, where)
                if isinstance(node, ast.Expr) and node is not tree.body[0]:
                    self.assertIsInstance(node.value, ast.Call, where)
                if isinstance(node, ast.Assign):
                    self.assertEqual(len(node.targets), 1, where)
                    self.assertNotIsInstance(node.targets[0], ast.Tuple, where)
                if isinstance(node, (ast.For, ast.While)):
                    self.assertEqual(node.orelse, [], where)
                if isinstance(node, ast.Try):
                    self.assertEqual(node.finalbody, [], where)

    def test_expressions(self):
        for name, tree in trees().items():
            for node in ast.walk(tree):
                where = f"{name}:{getattr(node, 'lineno', 0)}"
                if isinstance(node, ast.expr):
                    self.assertIsInstance(node, EXPRESSIONS, where)
                self.assertNotIsInstance(node, (ast.Div, ast.MatMult), where)
                if isinstance(node, ast.Constant):
                    self.assertNotIsInstance(node.value, (float, bytes, complex), where)
                    if isinstance(node.value, str):
                        self.assertNotIn(chr(37), node.value, where)
                if isinstance(node, ast.ListComp):
                    self.assertEqual(len(node.generators), 1, where)
                    self.assertLessEqual(len(node.generators[0].ifs), 1, where)
                if isinstance(node, ast.Compare) and isinstance(node.ops[0], (ast.Is, ast.IsNot)):
                    self.assertIn(ast.unparse(node.comparators[0]), ("None", "True", "False"), where)

    def test_f_strings_hold_plain_names(self):
        for name, tree in trees().items():
            for node in ast.walk(tree):
                if isinstance(node, ast.FormattedValue):
                    self.assertIsInstance(node.value, ast.Name, name)
                    self.assertIsNone(node.format_spec, name)


def with_parents(tree):
    """Each node, and the one that it stands in."""
    return [(child, node) for node in ast.walk(tree) for child in ast.iter_child_nodes(node)]


def called(node):
    """The name of a function or a method that is called; else an empty text."""
    if not isinstance(node, ast.Call):
        return ""
    return node.func.id if isinstance(node.func, ast.Name) else "." + node.func.attr


class Walks(unittest.TestCase):
    def is_walked(self, node, parent):
        if isinstance(parent, (ast.For, ast.comprehension)):
            return parent.iter is node
        name = called(parent)
        if name in ("min", "max"):
            return len(parent.args) == 1
        return name in WALKERS and parent.args[0] is node

    def test_what_is_walked_at_once(self):
        for name, tree in trees().items():
            for node, parent in with_parents(tree):
                if called(node) in WALKED_AT_ONCE:
                    self.assertTrue(self.is_walked(node, parent), f"{name}:{node.lineno}")

    def test_sets_are_not_kept(self):
        for name, tree in trees().items():
            for node, parent in with_parents(tree):
                if called(node) in ("set", "frozenset") or isinstance(node, ast.Set):
                    fits = isinstance(parent, (ast.Compare, ast.BinOp)) or called(parent) in ("sorted", "len")
                    self.assertTrue(fits, f"{name}:{node.lineno}")

    def test_what_a_loop_walks_is_not_changed_in_it(self):
        for name, tree in trees().items():
            for loop in ast.walk(tree):
                if isinstance(loop, ast.For) and isinstance(loop.iter, ast.Name):
                    for node in ast.walk(loop):
                        if called(node) in CHANGES:
                            self.assertNotEqual(ast.unparse(node.func.value), loop.iter.id, f"{name}:{node.lineno}")


class Names(unittest.TestCase):
    def test_bound_names(self):
        for name, tree in trees().items():
            for bound in bound_names(tree):
                self.assertNotIn(bound, UNUSED_NAMES, name)
                if bound not in OWN_DUNDERS:
                    self.assertRegex(bound, r"^[A-Za-z][A-Za-z0-9_]*$", name)

    def test_locals_are_called_like_nothing_else(self):
        for name, tree in trees().items():
            taken = [alias.name for node in imports_of(tree) for alias in node.names] + dir(builtins)
            taken += [node.name for node in tree.body if isinstance(node, ast.ClassDef)]
            for node in ast.walk(tree):
                if isinstance(node, ast.arg):
                    self.assertNotIn(node.arg, taken, name)
                if isinstance(node, ast.Name) and isinstance(node.ctx, ast.Store):
                    self.assertNotIn(node.id, taken, name)

    def test_names_of_pythons_own(self):
        for name, tree in trees().items():
            for node in ast.walk(tree):
                if isinstance(node, ast.Name) and hasattr(builtins, node.id):
                    self.assertIn(node.id, PYTHON_NAMES, name)

    def test_methods(self):
        known = trees()
        own = [
            part.name
            for tree in known.values() for node in ast.walk(tree) if isinstance(node, ast.ClassDef)
            for part in node.body if isinstance(part, ast.FunctionDef)
        ]
        for name, tree in known.items():
            for node in ast.walk(tree):
                if isinstance(node, ast.Call) and isinstance(node.func, ast.Attribute):
                    self.assertIn(node.func.attr, METHODS + own, name)


if __name__ == "__main__":
    unittest.main()
