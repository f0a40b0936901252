"""Points 51 and 52, and point 1 for oncewise.wayback."""

import unittest

from oncewise.errors import NoTree, OnceError
from oncewise.shrinking import first_bad
from oncewise.switching import fault_by, first_bad_tried
from oncewise.trees import checked_tree, tree_ends, web_of
from oncewise.wayback import partings, tree_of
from oncewise.webs import checked_web, eithers_of, ends_of
from samples import (
    A, B, NOT_A, NOT_B, apart, bad_at, bad_right_web, beside, chain_of_cuts, closed_wire, cut_leaves, cut_mirrors,
    cut_pairs, cut_ring, deep_left, deep_right, many_webs, mirror_tree, one_either, piece_of, refused,
    ring_and_parts, ring_web, shifted_web, sound_trees, thrown_trees, thrown_webs, two_cuts, two_wires, unchanged,
    waiting_web, wide, wire,
)


def some_webs():
    webs = [waiting_web(), cut_ring(), two_boths(), inner_both()]
    webs += [beside(cut_pairs(), web) for web in webs]
    webs += [shifted_web(web) for web in webs]
    return many_webs() + webs + thrown_webs(range(12), (6, 12, 20, 30, 60))


def two_boths():
    """Three links in a row, held together by two both knots that are ends."""
    knots = [A, NOT_A, B, NOT_B, ("both", 3, 1), A, NOT_A, ("both", 2, 5)]
    return (knots, [(0, 1), (2, 3), (5, 6)], [])


def inner_both():
    """A both knot that is no end, as it is a part of another one, and parts nothing by itself."""
    knots = [A, NOT_A, B, NOT_B, ("both", 0, 2), A, NOT_A, ("both", 5, 4)]
    return (knots, [(0, 1), (2, 3), (5, 6)], [])


def plain_partings(web):
    """Point 51, word for word."""
    knots, links, cuts = web
    edges = []
    for place, knot in enumerate(knots):
        if knot is not None and knot[0] in ("both", "either"):
            edges += [(place, knot[1]), (place, knot[2])]
    found = []
    for place in ends_of(web):
        if knots[place][0] == "both":
            others = links + cuts + [edge for edge in edges if place not in edge]
            left, right = [piece_of(others, part) for part in knots[place][1:]]
            if left != right:
                found.append(("both", place, sorted(left), sorted(right)))
    for number, (p, q) in enumerate(cuts):
        others = links + cuts[:number] + cuts[number + 1:] + edges
        left, right = piece_of(others, p), piece_of(others, q)
        if left != right:
            found.append(("cut", p, q, sorted(left), sorted(right)))
    return found


class Partings(unittest.TestCase):
    def check(self, web, told):
        self.assertIs(checked_web(web), True)
        self.assertEqual(unchanged(self, partings, web), told)

    def test_none(self):
        for web in (wire(), two_wires(), one_either(), apart()):
            self.check(web, [])

    def test_a_both(self):
        web = ([A, NOT_A, B, NOT_B, ("both", 0, 3)], [(0, 1), (2, 3)], [])
        self.check(web, [("both", 4, [0, 1], [2, 3])])
        web = ([A, NOT_A, B, NOT_B, ("both", 3, 0)], [(0, 1), (2, 3)], [])
        self.check(web, [("both", 4, [2, 3], [0, 1])])

    def test_both_knots_by_rising_places(self):
        self.check(two_boths(), [
            ("both", 4, [2, 3, 5, 6, 7], [0, 1]),
            ("both", 7, [0, 1, 2, 3, 4], [5, 6]),
        ])

    def test_a_both_that_is_no_end(self):
        self.check(inner_both(), [("both", 7, [5, 6], [0, 1, 2, 3, 4])])
        in_either = ([A, NOT_A, B, NOT_B, ("both", 0, 2), ("either", 4, 1)], [(0, 1), (2, 3)], [])
        self.check(in_either, [])

    def test_a_both_in_a_cut_is_no_end(self):
        self.check(cut_pairs(), [
            ("cut", 6, 2, [4, 5, 6, 10, 11, 12], [0, 1, 2, 7, 8, 9]),
        ])

    def test_cuts_in_order(self):
        self.check(cut_leaves(), [("cut", 1, 2, [0, 1], [2, 3])])
        self.check(two_cuts(), [("cut", 1, 2, [0, 1], [2, 3, 4, 5]), ("cut", 3, 4, [0, 1, 2, 3], [4, 5])])
        about = (two_cuts()[0], two_cuts()[1], [(2, 1), (4, 3)])
        self.check(about, [("cut", 2, 1, [2, 3, 4, 5], [0, 1]), ("cut", 4, 3, [4, 5], [0, 1, 2, 3])])

    def test_both_knots_ahead_of_cuts(self):
        knots = [A, NOT_A, A, NOT_A, B, NOT_B, ("both", 3, 4)]
        web = (knots, [(0, 1), (2, 3), (4, 5)], [(1, 2)])
        self.check(web, [("both", 6, [0, 1, 2, 3], [4, 5]), ("cut", 1, 2, [0, 1], [2, 3, 4, 5, 6])])

    def test_both_parts_of_an_either_are_kept(self):
        knots = [A, NOT_A, B, NOT_B, ("either", 0, 2), ("both", 1, 3)]
        self.check((knots, [(0, 1), (2, 3)], []), [])
        knots = [A, NOT_A, A, NOT_A, B, NOT_B, ("both", 1, 2), ("either", 0, 6), ("both", 7, 5)]
        self.check((knots, [(0, 1), (2, 3), (4, 5)], []), [("both", 8, [0, 1, 2, 3, 6, 7], [4, 5])])

    def test_nothing_parts_in_a_ring(self):
        for web in (ring_web(), closed_wire(), cut_ring(), shifted_web(cut_ring())):
            self.check(web, [])

    def test_a_cut_of_two_places_that_are_linked_too(self):
        self.check(([A, NOT_A, B, NOT_B], [(0, 1), (2, 3)], [(0, 1)]), [])
        web = ([A, NOT_A, A, NOT_A, B, NOT_B], [(0, 1), (2, 3), (4, 5)], [(0, 1), (3, 2)])
        self.check(web, [])

    def test_pieces_of_the_two_places_alone(self):
        """What hangs together with neither part is in neither list."""
        self.check(beside(cut_leaves(), wire()), [("cut", 1, 2, [0, 1], [2, 3])])
        self.check(beside(wire(), cut_leaves()), [("cut", 3, 4, [2, 3], [4, 5])])
        self.check(ring_and_parts(), [])

    def test_webs_that_are_not_right_may_part(self):
        ring_aside = ([A, NOT_A, ("both", 0, 1), B, NOT_B, ("both", 4, 2)], [(0, 1), (3, 4)], [])
        self.check(ring_aside, [("both", 5, [3, 4], [0, 1, 2])])

    def test_gone_places(self):
        web = ([None, A, NOT_A, None, B, NOT_B, None, ("both", 1, 4), None], [(1, 2), (4, 5)], [])
        self.check(web, [("both", 7, [1, 2], [4, 5])])
        web = ([None, A, NOT_A, None, A, NOT_A], [(1, 2), (4, 5)], [(2, 4)])
        self.check(web, [("cut", 2, 4, [1, 2], [4, 5])])

    def test_word_for_word(self):
        kinds = {"both": 0, "cut": 0}
        for web in some_webs():
            told = unchanged(self, partings, web)
            self.assertEqual(told, plain_partings(web))
            for parting in told:
                self.assertIs(type(parting), tuple)
                kinds[parting[0]] += 1
        self.assertTrue(all(count > 100 for count in kinds.values()), kinds)

    def test_great_webs(self):
        chain = web_of(chain_of_cuts(60))
        self.assertEqual(len(partings(chain)), 59)
        self.assertEqual(partings(chain), plain_partings(chain))
        for web in thrown_webs(range(3), (120,)):
            self.assertEqual(partings(web), plain_partings(web))

    def test_told_lists_are_new_ones(self):
        for web in (two_boths(), cut_pairs()):
            told = partings(web)
            self.assertIsNot(told[0][-1], told[0][-2])
            for parting in told:
                parting[-1].clear()
                parting[-2].clear()
            told.clear()
            self.assertEqual(partings(web), plain_partings(web))


class TreeOf(unittest.TestCase):
    def check(self, web):
        self.assertIs(checked_web(web), True)
        tree = unchanged(self, tree_of, web)
        self.assertIs(type(tree), tuple)
        self.assertEqual(len(tree), 2)
        self.assertIs(checked_tree(tree), True)
        self.assertEqual(web_of(tree), web)
        self.assertEqual(tree_ends(tree), ends_of(web))
        return tree

    def test_webs_that_have_one_tree_alone(self):
        self.assertEqual(self.check(wire()), ([A, NOT_A], ("link", 0, 1)))
        self.assertEqual(self.check(one_either()), (one_either()[0], ("either", 2, ("link", 0, 1))))
        web = ([A, NOT_A, B, NOT_B, ("both", 3, 0)], [(0, 1), (2, 3)], [])
        self.assertEqual(self.check(web), (web[0], ("both", 4, ("link", 2, 3), ("link", 0, 1))))
        rule = ("cut", 1, 2, ("link", 0, 1), ("link", 2, 3))
        self.assertEqual(self.check(cut_leaves()), (cut_leaves()[0], rule))
        about = (cut_leaves()[0], cut_leaves()[1], [(2, 1)])
        self.assertEqual(self.check(about), (about[0], ("cut", 2, 1, ("link", 2, 3), ("link", 0, 1))))

    def test_an_either_that_waits(self):
        rule = ("either", 8, ("both", 7, ("link", 0, 1), ("link", 2, 3)))
        rule = ("either", 6, ("both", 9, rule, ("link", 4, 5)))
        self.assertEqual(self.check(waiting_web()), (waiting_web()[0], rule))

    def test_gone_places_stay_gone(self):
        web = ([None, NOT_A, None, A, None], [(1, 3)], [])
        self.assertEqual(self.check(web), (web[0], ("link", 1, 3)))
        for web in (cut_pairs(), two_cuts(), two_boths(), inner_both(), waiting_web()):
            self.check(shifted_web(web))

    def test_small_webs_of_trees(self):
        for tree in sound_trees() + thrown_trees(range(60), (6, 10, 14, 20)):
            self.check(web_of(tree))

    def test_great_webs_of_trees(self):
        for word in (deep_left(30), deep_right(30), deep_left(30, "either"), deep_right(30, "either"), wide(30)):
            self.check(web_of(mirror_tree(word)))
        for word in (wide(15), deep_left(15), deep_right(15, "either")):
            self.check(web_of(cut_mirrors(word)))
        for tree in [chain_of_cuts(60)] + thrown_trees(range(20), (60, 90, 120)):
            self.check(web_of(tree))

    def test_all_right_ones_of_many_webs(self):
        count = 0
        for web in some_webs():
            if len(eithers_of(web)) <= 6 and first_bad_tried(web) is None:
                self.check(web)
                count += 1
        self.assertGreater(count, 100)

    def test_told_knots_are_a_new_list(self):
        for web in (wire(), cut_pairs()):
            tree = tree_of(web)
            self.assertIsNot(tree[0], web[0])
            tree[0].clear()
            self.assertEqual(web_of(tree_of(web)), web)


class NoTreeAtAll(unittest.TestCase):
    def check(self, web, choices):
        refused(self, NoTree, tree_of, web)
        try:
            tree_of(web)
        except OnceError as error:
            self.assertEqual(error.choices, choices)
            self.assertIs(type(error.choices), list)
            self.assertIsNotNone(fault_by(web, error.choices))

    def test_no_choices(self):
        for web in (two_wires(), ring_web(), closed_wire(), cut_ring(), ring_and_parts()):
            self.check(web, [])
            self.check(shifted_web(web), [])

    def test_the_first_switching_at_fault(self):
        self.check(apart(), [0])
        self.check(bad_right_web(), [1])
        for choices in ([1, 1], [0, 1, 0], [1, 0, 1, 1], [1] * 11, [1, 0] * 8 + [1]):
            self.check(bad_at(choices), choices)

    def test_every_wrong_one_of_many_webs(self):
        count = 0
        for web in some_webs():
            if len(eithers_of(web)) <= 6 and first_bad_tried(web) is not None:
                self.check(web, first_bad_tried(web))
                count += 1
        self.assertGreater(count, 100)

    def test_great_webs(self):
        count = 0
        for web in thrown_webs(range(6), (80, 120)):
            choices = first_bad(web)
            if choices is not None:
                self.check(web, choices)
                count += 1
        self.assertGreater(count, 10)

    def test_the_choices_are_the_askers_own(self):
        web = bad_at([1, 0])
        with self.assertRaises(NoTree) as first:
            tree_of(web)
        first.exception.choices.clear()
        with self.assertRaises(NoTree) as second:
            tree_of(web)
        self.assertEqual(second.exception.choices, [1, 0])


if __name__ == "__main__":
    unittest.main()
