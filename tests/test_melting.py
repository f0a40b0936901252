"""Point 64, and point 1 for oncewise.melting."""

import unittest

from oncewise.cutting import cut_free
from oncewise.melting import melted
from oncewise.trees import checked_tree, tree_ends, web_of
from samples import (
    A, B, Growing, NOT_A, NOT_B, chain_of_cuts, cut_mirrors, deep_left, deep_right, mirror_tree, mixed_tree,
    shifted, sound_trees, thrown_trees, unchanged, wide,
)


def rules_within(rule):
    found = [rule]
    for arm in rule[1:]:
        if isinstance(arm, tuple):
            found += rules_within(arm)
    return found


def cuts_in(tree):
    return [rule for rule in rules_within(tree[1]) if rule[0] == "cut"]


def places_under(knots, place):
    places = [place]
    if knots[place][0] in ("both", "either"):
        places += places_under(knots, knots[place][1]) + places_under(knots, knots[place][2])
    return places


def cut_within_cuts(word, count):
    """Mirrors of a word in a row, each in a cut with a tree that holds all the cuts ahead of it."""
    grown = Growing()
    rule, _, side = grown.mirror(word)
    for number in range(count):
        other, place, far = grown.mirror(word)
        rule = ("cut", side, place, rule, other) if number % 2 else ("cut", place, side, other, rule)
        side = far
    return grown.tree(rule)


def cuts_in_both_arms():
    """A cut of a both and an either knot, in the arms of which stand cuts too."""
    grown = Growing()
    first = grown.link("a")
    second = grown.link("b")
    near = grown.link("a")
    left = ("cut", first[2], near[1], first, near)
    both = grown.both(first[1], second[2], left, second)
    third = grown.link("a", "turned")
    fourth = grown.link("b")
    inner = grown.both(third[2], fourth[2], third, fourth)
    either = grown.either(third[1], fourth[1], inner)
    far = grown.mirror(("either", NOT_A, B))
    right = ("cut", inner[1], far[1], either, far[0])
    return grown.tree(("cut", both[1], either[1], both, right))


class Melted(unittest.TestCase):
    def check(self, tree):
        self.assertIs(checked_tree(tree), True)
        told = unchanged(self, melted, tree)
        self.assertIs(type(told), tuple)
        self.assertEqual(len(told), 2)
        self.assertIs(checked_tree(told), True)
        self.assertEqual(cuts_in(told), [])
        self.assertEqual(web_of(told), cut_free(web_of(tree)))
        self.assertEqual(tree_ends(told), tree_ends(tree))
        knots = tree[0]
        gone = [under for _, p, q, *_ in cuts_in(tree) for place in (p, q) for under in places_under(knots, place)]
        self.assertEqual(told[0], [None if place in gone else knot for place, knot in enumerate(knots)])
        return told

    def test_no_cut(self):
        for tree in sound_trees():
            if not cuts_in(tree):
                self.assertEqual(web_of(self.check(tree)), web_of(tree))
        self.assertEqual(self.check(([A, NOT_A], ("link", 0, 1))), ([A, NOT_A], ("link", 0, 1)))

    def test_a_cut_of_leaves(self):
        tree = ([A, NOT_A, A, NOT_A], ("cut", 1, 2, ("link", 0, 1), ("link", 2, 3)))
        self.assertEqual(self.check(tree), ([A, None, None, NOT_A], ("link", 0, 3)))
        tree = ([A, NOT_A, A, NOT_A], ("cut", 2, 1, ("link", 2, 3), ("link", 0, 1)))
        self.assertEqual(self.check(tree), ([A, None, None, NOT_A], ("link", 0, 3)))

    def test_a_cut_of_a_both_and_an_either_knot(self):
        tree = cut_mirrors(("both", A, NOT_B))
        told = self.check(tree)
        kept = [place for place, knot in enumerate(told[0]) if knot is not None]
        self.assertEqual(len(kept), 6)
        self.assertEqual(sorted(rule[0] for rule in rules_within(told[1])), ["both", "either", "link", "link"])

    def test_a_cut_deep_in_the_tree(self):
        grown = Growing()
        first, place, side = grown.mirror(("both", A, B))
        second, other, far = grown.mirror(("both", A, B))
        cut = ("cut", side, other, first, second)
        tree = grown.tree(grown.either(far, place, cut))
        told = self.check(tree)
        self.assertEqual(told[1][:2], ("either", len(tree[0]) - 1))

    def test_a_chain_of_cuts(self):
        for count in (2, 3, 5, 60):
            told = self.check(chain_of_cuts(count))
            self.assertEqual(told[1][0], "link")
            self.assertEqual([knot is None for knot in told[0]].count(False), 2)

    def test_cuts_within_cuts(self):
        for word in (A, ("both", A, B), ("either", ("both", A, NOT_B), NOT_A)):
            for count in (1, 2, 3, 5):
                self.check(cut_within_cuts(word, count))
        self.check(cuts_in_both_arms())

    def test_gone_places(self):
        for tree in sound_trees() + [mixed_tree(), cut_within_cuts(("both", A, B), 3), cuts_in_both_arms()]:
            self.check(tree)
            self.check(shifted(tree))

    def test_thrown_trees(self):
        count = 0
        for tree in thrown_trees(range(40), (12, 20, 40)):
            self.check(tree)
            count += len(cuts_in(tree))
        self.assertGreater(count, 100)

    def test_great_trees(self):
        for word in (wide(15), deep_left(15), deep_right(15, "either"), wide(2)):
            self.check(cut_mirrors(word))
        self.check(cut_within_cuts(wide(4), 7))
        self.check(mirror_tree(deep_left(30)))
        most = 0
        for tree in thrown_trees(range(15), (80, 120)):
            self.check(tree)
            most = max(most, len(tree[0]))
        self.assertGreater(most, 110)

    def test_told_knots_are_a_new_list(self):
        for tree in (([A, NOT_A], ("link", 0, 1)), chain_of_cuts(3)):
            kept = melted(tree)
            told = melted(tree)
            self.assertIsNot(told[0], tree[0])
            told[0].clear()
            self.assertEqual(melted(tree), kept)


if __name__ == "__main__":
    unittest.main()
