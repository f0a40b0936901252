"""Words, webs and trees that several test files use."""

import copy

A = ("plain", "a")
B = ("plain", "b")
C = ("plain", "c")
NOT_A = ("turned", "a")
NOT_B = ("turned", "b")
NOT_C = ("turned", "c")


def deep_left(depth, kind="both"):
    word = A
    for _ in range(depth - 1):
        word = (kind, word, B)
    return word


def deep_right(depth, kind="both"):
    word = A
    for _ in range(depth - 1):
        word = (kind, B, word)
    return word


def deep_left_line(depth, sign="&"):
    return "(" * (depth - 1) + "a" + f" {sign} b)" * (depth - 1)


def deep_right_line(depth, sign="&"):
    return f"(b {sign} " * (depth - 1) + "a" + ")" * (depth - 1)


def wide(leaves):
    """A word of so many leaves, no deeper than it must be."""
    if leaves == 1:
        return A
    kind = "both" if leaves % 2 == 0 else "either"
    return (kind, wide(leaves // 2), wide(leaves - leaves // 2))


def words_to_depth(depth, leaves=(A, NOT_A, B, NOT_B)):
    """All words of at most that depth over those leaves."""
    words = list(leaves)
    for _ in range(depth - 1):
        words = list(leaves) + [
            (kind, left, right)
            for kind in ("both", "either")
            for left in words
            for right in words
        ]
    return words


def wire():
    return ([A, NOT_A], [(0, 1)], [])


def two_wires():
    """Two links, of two NAMEs, all four leaves ends."""
    return ([A, NOT_A, B, NOT_B], [(0, 1), (2, 3)], [])


def cut_leaves():
    """A leaf of one link in a cut with a leaf of another."""
    return ([A, NOT_A, A, NOT_A], [(0, 1), (2, 3)], [(1, 2)])


def cut_pairs():
    """A both and an either knot in a cut, the upper place first, and a gone place."""
    knots = [
        A, B, ("both", 0, 1),
        None,
        NOT_A, NOT_B, ("either", 4, 5),
        NOT_A, NOT_B, ("either", 7, 8),
        A, B, ("both", 10, 11),
    ]
    return (knots, [(0, 7), (1, 8), (4, 10), (5, 11)], [(6, 2)])


def two_cuts():
    """Two cuts of leaves in a line of links."""
    knots = [A, NOT_A, A, NOT_A, A, NOT_A]
    return (knots, [(0, 1), (2, 3), (4, 5)], [(1, 2), (3, 4)])


def sound_webs():
    return [wire(), two_wires(), cut_leaves(), cut_pairs(), two_cuts()]


def ring_web():
    """A both knot round a link: its edges make a ring."""
    return ([A, NOT_A, ("both", 0, 1)], [(0, 1)], [])


def bad_right_web():
    """An either knot that is at fault where its right part is kept."""
    return ([A, NOT_A, B, NOT_B, ("either", 0, 2), ("both", 4, 3)], [(0, 1), (2, 3)], [])


def bad_at(choices):
    """A web of so many either knots of which just that switching is at fault.

    Each either knot leads on to the next one by the part that is told, and to a
    cluster by the other: a ring goes through all of them or through none.
    """
    count = len(choices)
    knots = []
    for _ in range(count):
        knots += [A, NOT_A, B, NOT_B]
    links = []
    for number, choice in enumerate(choices):
        own = 4 * number
        after = 4 * ((number + 1) % count)
        links += [(own, own + 1), tuple(sorted([own + 2, after + 3]))]
        parts = (own, own + 2) if choice == 1 else (own + 2, own)
        knots.append(("either",) + parts)
        knots.append(("both", len(knots) - 1, own + 3))
    cluster = 1
    for number in range(1, count):
        knots.append(("both", cluster, 4 * number + 1))
        cluster = len(knots) - 1
    return (knots, sorted(links), [])


class Growing:
    """Knots that grow with the rules that tell them."""

    def __init__(self):
        self.knots = []

    def put(self, knot):
        self.knots.append(knot)
        return len(self.knots) - 1

    def link(self, name="a", first="plain"):
        other = "turned" if first == "plain" else "plain"
        p = self.put((first, name))
        return ("link", p, self.put((other, name)))

    def either(self, i, j, arm):
        return ("either", self.put(("either", i, j)), arm)

    def both(self, i, j, left, right):
        return ("both", self.put(("both", i, j)), left, right)

    def mirror(self, word):
        """A rule whose two ends are a word and its turned side, and these two places."""
        if word[0] in ("plain", "turned"):
            rule = self.link(word[1], word[0])
            return (rule, rule[1], rule[2])
        left, left_place, left_side = self.mirror(word[1])
        right, right_place, right_side = self.mirror(word[2])
        if word[0] == "both":
            inner = self.both(left_place, right_place, left, right)
            outer = self.either(left_side, right_side, inner)
            return (outer, inner[1], outer[1])
        inner = self.both(left_side, right_side, left, right)
        outer = self.either(left_place, right_place, inner)
        return (outer, outer[1], inner[1])

    def tree(self, rule):
        return (self.knots, rule)


def mirror_tree(word):
    grown = Growing()
    return grown.tree(grown.mirror(word)[0])


def cut_mirrors(word):
    """Two mirrors of a word, the turned side of the one in a cut with the word of the other."""
    grown = Growing()
    first, _, side = grown.mirror(word)
    second, place, _ = grown.mirror(word)
    return grown.tree(("cut", side, place, first, second))


def chain_of_cuts(count):
    """So many rules within one another: links, each in a cut with all behind it."""
    grown = Growing()
    rule = grown.link()
    place = rule[1]
    for _ in range(count - 1):
        link = grown.link()
        rule = ("cut", link[2], place, link, rule)
        place = link[1]
    return grown.tree(rule)


def shifted(tree, by=1, every=2):
    """The same tree with gone places strewn in."""
    knots = [None] * by
    new = {}
    for place, knot in enumerate(tree[0]):
        if place % every == 0:
            knots.append(None)
        new[place] = len(knots)
        if knot is not None and knot[0] in ("both", "either"):
            knot = (knot[0], new[knot[1]], new[knot[2]])
        knots.append(knot)
    return (knots + [None], renumbered(tree[1], new))


def renumbered(rule, new):
    return tuple(
        new[part] if isinstance(part, int) else renumbered(part, new) if isinstance(part, tuple) else part
        for part in rule
    )


def mixed_tree():
    """All four rules, a gone place, knots whose left part lies above the right one."""
    grown = Growing()
    grown.put(None)
    first = grown.link("a")
    second = grown.link("b", "turned")
    inner = grown.both(second[1], first[1], second, first)
    outer = grown.either(second[2], first[2], inner)
    third, place, _ = grown.mirror(("both", NOT_B, A))
    grown.put(None)
    return grown.tree(("cut", outer[1], place, outer, third))


def sound_trees():
    plain = ([A, NOT_A], ("link", 0, 1))
    turned_first = ([NOT_A, A], ("link", 0, 1))
    closed = ([A, NOT_A, ("either", 1, 0)], ("either", 2, ("link", 0, 1)))
    beside = ([A, NOT_A, B, NOT_B, ("both", 0, 3)], ("both", 4, ("link", 0, 1), ("link", 2, 3)))
    crossed = ([A, NOT_A, B, NOT_B, ("both", 3, 0)], ("both", 4, ("link", 2, 3), ("link", 0, 1)))
    trees = [plain, turned_first, closed, beside, crossed, mixed_tree(), chain_of_cuts(2), chain_of_cuts(5)]
    for word in words_to_depth(2):
        trees.append(mirror_tree(word))
    for word in (A, ("both", A, NOT_B), ("either", A, A), ("either", ("both", A, B), C)):
        trees.append(cut_mirrors(word))
    return trees + [shifted(tree) for tree in trees[:10]] + [shifted(trees[-1], 0, 3)]


def loosened(text):
    """The same text in other guises: more blanks, lines of blanks, no last line feed."""
    return [
        text[:-1],
        text.replace(" ", "   "),
        text.replace("\n", "  \n  "),
        text.replace("\n", "\n\n   \n"),
        "\n \n" + text.replace(" ", "  ").replace("\n", " \n\n") + "   ",
    ]


def unchanged(case, call, *handed):
    """The answer of a call, which must leave what it was handed as it was."""
    before = copy.deepcopy(handed)
    answer = call(*handed)
    case.assertEqual(handed, before)
    return answer


def refused(case, error, call, *handed):
    """A call must be refused with just this class and leave what it was handed."""
    before = copy.deepcopy(handed)
    with case.assertRaises(error) as caught:
        call(*handed)
    case.assertIs(type(caught.exception), error)
    case.assertEqual(handed, before)
