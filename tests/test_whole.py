"""What points 1 to 3 and the interface promise over the whole program."""

import importlib
import inspect
import unittest

from oncewise import errors
from oncewise.asking import freed, judged, sought, webbed
from oncewise.cutting import cut_free, cut_step, steps_due
from oncewise.errors import (
    BadChoices, BadText, BadTree, BadWeb, NoCut, NoExchange, NoTree, NoWord, OnceError, OtherWeb, TooMany,
)
from oncewise.exchanging import exchanged, exchanges_of
from oncewise.melting import melted
from oncewise.sameness import way_between
from oncewise.searching import searched, tries_due
from oncewise.shrinking import first_bad, right_web, shrunk
from oncewise.switching import choices_at, edges_by, fault_by, first_bad_tried
from oncewise.trees import checked_tree, tree_ends, web_of
from oncewise.treetext import read_tree, written_tree
from oncewise.wayback import partings, tree_of
from oncewise.webs import checked_web, eithers_of, ends_of, laid, word_at
from oncewise.webtext import read_web, written_web
from oncewise.words import depth_of, leaves_of, size_of, turned
from oncewise.wordtext import read_row, read_word, shown_row, shown_word
from samples import (
    A, B, NOT_A, apart, bad_at, chain_of_cuts, closed_wire, cut_mirrors, cut_pairs, deep_left, deep_left_line,
    deep_right, lists_in, mixed_tree, refused, ring_web, shifted, thrown_trees, thrown_webs, tower, two_wires,
    unchanged, wide, wire,
)

INTERFACE = {
    "words": ["depth_of(word)", "size_of(word)", "turned(word)", "leaves_of(word)"],
    "wordtext": ["shown_word(word)", "shown_row(words)", "read_word(line)", "read_row(line)"],
    "webs": ["word_at(knots, place)", "laid(words)", "checked_web(web)", "ends_of(web)", "eithers_of(web)"],
    "webtext": ["written_web(web)", "read_web(text)"],
    "trees": ["checked_tree(tree)", "tree_ends(tree)", "web_of(tree)"],
    "treetext": ["written_tree(tree)", "read_tree(text)"],
    "switching": [
        "choices_at(count, number)", "edges_by(web, choices)", "fault_by(web, choices)", "first_bad_tried(web)",
    ],
    "shrinking": ["shrunk(web)", "right_web(web)", "first_bad(web)"],
    "wayback": ["partings(web)", "tree_of(web)"],
    "cutting": ["cut_step(web, k)", "cut_free(web)", "steps_due(web)"],
    "melting": ["melted(tree)"],
    "exchanging": ["exchanged(tree, way, arm)", "exchanges_of(tree)"],
    "sameness": ["way_between(tree, other)"],
    "searching": ["tries_due(words)", "searched(words, most=120)"],
    "asking": ["judged(text)", "webbed(text)", "freed(text)", "sought(text, most=120)"],
}

GREAT = 10 ** 5000

TRIED_ROW = "((a & -a) & (a & -a)), b, -b, c, -c"


def calls_with_words():
    for word in (A, NOT_A, ("both", A, ("either", NOT_A, B)), wide(9)):
        for call in (depth_of, size_of, turned, leaves_of, shown_word):
            yield (call, word)
    for line in ("a, -a", "(a & -b), (b | -a)", "a", "(a & -a)", TRIED_ROW):
        row = read_row(line)
        for call in (shown_row, laid, tries_due, searched):
            yield (call, row)
        yield (read_row, line)
        yield (sought, line)
        yield (searched, row, 1000)
    yield (read_word, "-(a & b)")
    yield (choices_at, 3, 1)
    yield (choices_at, 0, 0)


def calls_with_webs():
    webs = [wire(), cut_pairs(), closed_wire(), ring_web(), apart(), bad_at([1, 0]), two_wires()]
    for web in webs + thrown_webs(range(4), (12, 20)):
        for call in (checked_web, ends_of, eithers_of, written_web, shrunk, right_web, first_bad, first_bad_tried,
                     partings, steps_due):
            yield (call, web)
        for choice in (0, 1):
            yield (edges_by, web, [choice] * len(eithers_of(web)))
            yield (fault_by, web, [choice] * len(eithers_of(web)))
        if right_web(web):
            yield (tree_of, web)
            yield (cut_free, web)
            if web[2]:
                yield (cut_step, web, 0)
        yield (word_at, web[0], ends_of(web)[0] if ends_of(web) else 0)
        yield (read_web, written_web(web))
        yield (judged, written_web(web))


def calls_with_trees():
    for tree in [([A, NOT_A], ("link", 0, 1)), mixed_tree(), tower(3, [0, 1, 2])] + thrown_trees(range(6), (12, 30)):
        for call in (checked_tree, tree_ends, web_of, written_tree, melted, exchanges_of):
            yield (call, tree)
        for call in (read_tree, webbed, freed):
            yield (call, written_tree(tree))
        yield (way_between, tree, tree)
        for way, arm in exchanges_of(tree):
            yield (exchanged, tree, way, arm)
            yield (way_between, tree, exchanged(tree, way, arm))


def all_calls():
    return list(calls_with_words()) + list(calls_with_webs()) + list(calls_with_trees())


class Interface(unittest.TestCase):
    def test_functions_and_their_arguments(self):
        for name, told in INTERFACE.items():
            module = importlib.import_module("oncewise." + name)
            for line in told:
                function = getattr(module, line.split("(")[0])
                self.assertEqual(function.__name__ + str(inspect.signature(function)), line)
                self.assertEqual(function.__module__, "oncewise." + name)

    def test_classes(self):
        for refusal in (NoWord, BadText, BadWeb, BadTree, BadChoices, NoTree, NoCut, NoExchange, OtherWeb, TooMany):
            self.assertEqual(refusal.__bases__, (OnceError,))
            self.assertEqual(refusal.__module__, "oncewise.errors")
        self.assertEqual(errors.OnceError.__bases__, (ValueError,))

    def test_arguments_by_their_names(self):
        web = two_wires()
        self.assertEqual(cut_step(web=(wire()[0] * 2, [(0, 1), (2, 3)], [(1, 2)]), k=0)[1], [(0, 3)])
        self.assertEqual(fault_by(web=web, choices=[]), ("parts", [0, 1]))
        tree = chain_of_cuts(3)
        other = exchanged(tree=tree, way=[], arm=1)
        self.assertEqual(way_between(tree=tree, other=other), [([], 1)])


class AskersOwn(unittest.TestCase):
    """Point 1: nothing handed in is changed, and each told list is a new one."""

    def test_every_function_is_asked(self):
        asked = {call[0].__name__ for call in all_calls()}
        self.assertEqual(asked, {line.split("(")[0] for told in INTERFACE.values() for line in told})

    def test_what_is_handed_in_stays(self):
        for call in all_calls():
            with self.subTest(call=call[0].__name__):
                unchanged(self, *call)

    def test_asked_again(self):
        """What was told before is no part of what is told now, and changes nothing of it."""
        for call in all_calls():
            with self.subTest(call=call[0].__name__):
                first = call[0](*call[1:])
                second = call[0](*call[1:])
                self.assertEqual(first, second)
                ids = {id(found) for found in lists_in(first)}
                self.assertEqual(ids & {id(found) for found in lists_in(second)}, set())
                for found in lists_in(first):
                    found.append(None)
                self.assertEqual(call[0](*call[1:]), second)


class Refusals(unittest.TestCase):
    """Points 2 and 3: each refusal of its own class, with whole numbers out of their range."""

    def test_words(self):
        for line in ("", "a b", "(a & b", "aaaaaaaaa", deep_left_line(61), "a\n", "(" * 200, "-" * 60):
            refused(self, NoWord, read_word, line)
            refused(self, NoWord, read_row, line)
            refused(self, NoWord, sought, line)

    def test_webs(self):
        link = [(0, 1)]
        for number in (-1, 2, 7, GREAT, -GREAT):
            refused(self, BadWeb, checked_web, ([A, NOT_A], [(0, number)], []))
            refused(self, BadWeb, checked_web, ([A, NOT_A], link, [(number, 0)]))
            refused(self, BadWeb, checked_web, ([A, NOT_A, ("both", 0, number)], link, []))
            refused(self, NoCut, cut_step, (wire()[0] * 2, [(0, 1), (2, 3)], [(1, 2)]), number)
            refused(self, BadChoices, edges_by, apart(), [number])
            refused(self, BadChoices, fault_by, apart(), [number])
        for web in (([], [], []), ([None], [], []), ([A, NOT_A], [], []), ([A, NOT_A], link * 2, [])):
            refused(self, BadWeb, checked_web, web)
        for choices in ([], [0, 0], [0] * 60):
            refused(self, BadChoices, edges_by, apart(), choices)
            refused(self, BadChoices, fault_by, apart(), choices)
        refused(self, NoCut, cut_free, closed_wire())
        refused(self, NoTree, tree_of, two_wires())
        refused(self, TooMany, first_bad_tried, bad_at([1] * 11))

    def test_trees(self):
        for number in (-1, 2, 7, GREAT, -GREAT):
            refused(self, BadTree, checked_tree, ([A, NOT_A], ("link", 0, number)))
            refused(self, BadTree, checked_tree, ([A, NOT_A], ("either", number, ("link", 0, 1))))
            link = ("link", 0, 1)
            refused(self, BadTree, checked_tree, ([A, NOT_A], ("both", number, link, link)))
            refused(self, BadTree, checked_tree, ([A, NOT_A], ("cut", 0, number, link, link)))
            refused(self, NoExchange, exchanged, chain_of_cuts(3), [number], 0)
            refused(self, NoExchange, exchanged, chain_of_cuts(3), [], number)
        refused(self, OtherWeb, way_between, chain_of_cuts(2), chain_of_cuts(3))

    def test_texts(self):
        for text in ("a", "knot", "knot 0 +a -a", "tree tree", "knot 0 +A", "link 0 1 2", "knot 00000 +a"):
            for call in (read_web, read_tree, judged, webbed, freed):
                refused(self, BadText, call, text)
        for call in (read_web, judged):
            refused(self, BadWeb, call, "")
        for call in (read_tree, webbed, freed):
            refused(self, BadTree, call, "tree link 0 1")

    def test_numbers(self):
        for number in (-1, 8, GREAT, -GREAT):
            refused(self, BadChoices, choices_at, 3, number)
        row = read_row(TRIED_ROW)
        for most in (1, 0, -1, -GREAT):
            refused(self, TooMany, searched, row, most)
            refused(self, TooMany, sought, TRIED_ROW, most)


class Bounds(unittest.TestCase):
    """Point 2: what lies at the bounds is answered as all else."""

    def test_words_of_the_greatest_depth(self):
        for word in (deep_left(60), deep_right(60), deep_left(60, "either"), deep_right(60, "either")):
            self.assertEqual(depth_of(word), 60)
            self.assertEqual(read_word(shown_word(word)), word)
            self.assertEqual(read_word("-" * 60 + shown_word(word)), word)
            knots, places = laid([word])
            self.assertEqual(word_at(knots, places[0]), word)
            self.assertEqual(searched([word]), ("names", leaves_of(word)[0][1]))

    def test_words_of_the_greatest_size(self):
        word = wide(120)
        self.assertEqual(size_of(word), 239)
        self.assertEqual(tries_due([word]), 0)
        self.assertEqual(turned(turned(word)), word)
        self.assertEqual(len(leaves_of(word)), 120)

    def test_a_line_of_many_brackets(self):
        row = [deep_left(51)] * 4
        line = shown_row(row)
        self.assertEqual(line.count("("), 200)
        self.assertEqual(read_row(line), row)
        self.assertEqual(sought(line), "names a\n")

    def test_choices(self):
        self.assertEqual(choices_at(60, 2 ** 60 - 1), [1] * 60)
        refused(self, BadChoices, choices_at, 60, 2 ** 60)

    def test_texts_of_many_signs(self):
        for tree in [chain_of_cuts(60)] + thrown_trees(range(4), (120,)):
            text = written_tree(tree)
            text = text.replace("\n", " " * ((6000 - len(text)) // text.count("\n")) + "\n")
            self.assertLessEqual(len(text), 6000)
            self.assertGreater(len(text), 5800)
            self.assertEqual(read_tree(text), tree)
            self.assertEqual(webbed(text), written_web(web_of(tree)))
            self.assertEqual(freed(text), written_tree(melted(tree)))

    def test_rules_within_one_another(self):
        knots = "knot 0 +a\nknot 1 -a\ntree "
        refused(self, BadTree, read_tree, knots + "either 0 " * 149 + "link 0 1\n")
        refused(self, BadText, read_tree, knots + "either 0 " * 150 + "link 0 1\n")
        for call in (webbed, freed):
            refused(self, BadTree, call, knots + "either 0 " * 149 + "link 0 1\n")
            refused(self, BadText, call, knots + "either 0 " * 150 + "link 0 1\n")


class AllTogether(unittest.TestCase):
    """A tree and all that is told of it."""

    def check(self, tree):
        web = web_of(tree)
        self.assertIs(checked_web(web), True)
        self.assertEqual(ends_of(web), tree_ends(tree))
        self.assertIs(right_web(web), True)
        self.assertIsNone(first_bad(web))
        back = tree_of(web)
        self.assertEqual(web_of(back), web)
        here = tree
        for way, arm in way_between(tree, back):
            here = exchanged(here, way, arm)
        self.assertEqual(here, back)
        self.assertEqual(judged(webbed(written_tree(tree))), "right\n" + written_tree(back))
        free = melted(tree)
        self.assertEqual(web_of(free), cut_free(web))
        self.assertEqual(freed(written_tree(tree)), written_tree(free))
        row = [word_at(free[0], place) for place in tree_ends(free)]
        if 0 < tries_due(row) <= 120:
            self.assertEqual(searched(row)[0], "web")
            self.assertEqual(sought(shown_row(row)).split("\n")[0], "found")
        elif tries_due(row) > 1000:
            refused(self, TooMany, searched, row, 1000)

    def test_thrown_trees(self):
        for tree in thrown_trees(range(25), (10, 25, 60, 120)):
            self.check(tree)

    def test_exchanged_trees(self):
        for tree in thrown_trees(range(8), (16, 24)):
            for way, arm in exchanges_of(tree):
                self.check(exchanged(tree, way, arm))

    def test_trees_with_gone_places(self):
        for tree in thrown_trees(range(8), (16, 50)) + [mixed_tree(), cut_mirrors(wide(7))]:
            self.check(shifted(tree))


if __name__ == "__main__":
    unittest.main()
