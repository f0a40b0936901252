"""Point 73, and point 1 for oncewise.sameness."""

import itertools
import unittest

from oncewise.errors import OtherWeb
from oncewise.exchanging import exchanged, exchanges_of
from oncewise.sameness import way_between
from oncewise.trees import checked_tree, web_of
from oncewise.wayback import tree_of
from samples import (
    A, B, Dice, NOT_A, NOT_B, all_ways, chain_of_cuts, cut_mirrors, deep_left, deep_right,
    mirror_tree, mixed_tree, piece_of, refused, relinked, shifted, sound_trees, thrown_trees, tower, two_swapped,
    unchanged, wide,
)


def trees_of(web):
    """All the trees of a web, told by point 33 alone."""
    knots, links, cuts = web
    there = frozenset(place for place, knot in enumerate(knots) if knot is not None)
    return [(knots, rule) for rule in rules_of(knots, links, cuts, there)]


def rules_of(knots, links, cuts, places):
    """All rules that tell just these places, with just those of the links and the cuts that are among them."""
    links = [pair for pair in links if pair[0] in places]
    cuts = [pair for pair in cuts if pair[0] in places]
    if len(places) == 2 and len(links) == 1 and not cuts:
        return [("link",) + links[0]]
    parts = [part for place in places if len(knots[place]) == 3 for part in knots[place][1:]]
    taken = parts + [place for pair in cuts for place in pair]
    found = []
    for place in sorted(places - set(taken)):
        rest = places - {place}
        if knots[place][0] == "either":
            found += [("either", place, arm) for arm in rules_of(knots, links, cuts, rest)]
        if knots[place][0] == "both":
            found += parted(knots, links, cuts, rest, ("both", place), knots[place][1:])
    for cut in cuts:
        others = [pair for pair in cuts if pair != cut]
        found += parted(knots, links, others, places, ("cut",) + cut, cut)
    return found


def parted(knots, links, cuts, places, head, taken):
    """What the rule takes lies in two pieces that are all there is, or there is no such rule."""
    edges = links + cuts
    for place in places:
        if len(knots[place]) == 3:
            edges = edges + [(place, knots[place][1]), (place, knots[place][2])]
    first, second = [frozenset(piece_of(edges, place)) for place in taken]
    if first & second or first | second != places:
        return []
    return [
        head + (left, right)
        for left in rules_of(knots, links, cuts, first)
        for right in rules_of(knots, links, cuts, second)
    ]


def walked(tree, seed, count):
    """The tree behind so many exchanges that are thrown."""
    dice = Dice(seed)
    for _ in range(count):
        pairs = exchanges_of(tree)
        if pairs:
            tree = exchanged(tree, *dice.one_of(pairs))
    return tree


def row_of_cuts(order):
    """The same links in a row each time, cut between two of them at a time, in that order from the outside."""
    count = len(order) + 1
    links = [("link", 2 * number, 2 * number + 1) for number in range(count)]

    def rule_of(first, last):
        if first == last:
            return links[first]
        at = [number for number in order if first <= number < last][0]
        return ("cut", 2 * at + 1, 2 * at + 2, rule_of(first, at), rule_of(at + 1, last))

    return ([A, NOT_A] * count, rule_of(0, count - 1))


def small_webs():
    trees = sound_trees() + [mixed_tree(), tower(2, [0, 1]), tower(3, [0, 1, 2]), chain_of_cuts(6)]
    return [web_of(tree) for tree in trees + thrown_trees(range(30), (8, 12, 15))]


class WayBetween(unittest.TestCase):
    def check(self, tree, other):
        pairs = unchanged(self, way_between, tree, other)
        self.assertIs(type(pairs), list)
        count = len(all_ways(tree))
        self.assertLessEqual(len(pairs), count * (count - 1) // 2)
        here = tree
        for pair in pairs:
            self.assertEqual((type(pair), len(pair), type(pair[0]), type(pair[1])), (tuple, 2, list, int))
            here = exchanged(here, *pair)
        self.assertEqual(here, other)
        return pairs

    def test_equal_trees(self):
        for tree in sound_trees() + thrown_trees(range(10), (12, 120)):
            self.assertEqual(self.check(tree, tree), [])
            self.assertEqual(self.check(tree, (list(tree[0]), tree[1])), [])

    def test_trees_of_one_rule(self):
        tree = ([A, NOT_A], ("link", 0, 1))
        self.assertEqual(self.check(tree, ([A, NOT_A], ("link", 0, 1))), [])

    def test_one_exchange(self):
        knots = [A, NOT_A, A, NOT_A, A, NOT_A]
        links = [("link", 0, 1), ("link", 2, 3), ("link", 4, 5)]
        left = (knots, ("cut", 3, 4, ("cut", 1, 2, links[0], links[1]), links[2]))
        right = (knots, ("cut", 1, 2, links[0], ("cut", 3, 4, links[1], links[2])))
        self.assertEqual(self.check(left, right), [([], 0)])
        self.assertEqual(self.check(right, left), [([], 1)])

    def test_every_neighbour(self):
        for tree in sound_trees() + thrown_trees(range(20), (10, 20, 40)):
            for way, arm in exchanges_of(tree):
                other = exchanged(tree, way, arm)
                self.assertNotEqual(self.check(tree, other), [])
                self.assertNotEqual(self.check(other, tree), [])

    def test_between_any_two_trees_of_a_web(self):
        """All the trees of a web, as the points on sound trees tell them; not those alone that exchanges reach."""
        count = 0
        for web in small_webs():
            trees = trees_of(web)
            self.assertTrue(trees)
            for tree in trees:
                self.assertIs(checked_tree(tree), True)
                self.assertEqual(web_of(tree), web)
            for tree, other in itertools.islice(itertools.product(trees, repeat=2), 200):
                self.check(tree, other)
                count += 1
        self.assertGreater(count, 1000)

    def test_either_rules_turned_about(self):
        for count in (2, 3, 5, 8):
            tree = tower(count, range(count))
            for seed in range(6):
                other = tower(count, Dice(seed).shuffled(range(count)))
                self.check(tree, other)
                self.check(other, tree)
            other = tower(count, range(count - 1, -1, -1))
            self.assertGreaterEqual(len(self.check(tree, other)), count * (count - 1) // 2)

    def test_cuts_turned_about(self):
        for count in (2, 3, 6, 12):
            orders = [list(range(count)), list(range(count))[::-1]]
            orders += [Dice(seed).shuffled(range(count)) for seed in range(6)]
            for first, second in itertools.product(orders, repeat=2):
                self.check(row_of_cuts(first), row_of_cuts(second))

    def test_far_from_one_another(self):
        for seed, tree in enumerate(thrown_trees(range(20), (12, 25, 40))):
            other = walked(tree, seed, 60)
            told = tree_of(web_of(tree))
            for first, second in itertools.permutations((tree, other, told), 2):
                self.check(first, second)

    def test_gone_places(self):
        for seed, tree in enumerate(thrown_trees(range(12), (12, 20)) + [mixed_tree()]):
            other = walked(tree, seed, 30)
            self.check(shifted(tree), shifted(other))
            self.check(shifted(other, 0, 3), shifted(tree, 0, 3))

    def test_great_trees(self):
        trees = thrown_trees(range(6), (90, 120)) + [chain_of_cuts(60), cut_mirrors(wide(15))]
        trees += [mirror_tree(word) for word in (wide(30), deep_left(30), deep_right(30, "either"))]
        for seed, tree in enumerate(trees):
            other = walked(tree, seed, 60)
            self.check(tree, other)
            self.check(other, tree_of(web_of(tree)))
        self.check(tower(17, range(17)), tower(17, range(16, -1, -1)))
        self.check(row_of_cuts(list(range(59))), row_of_cuts(list(range(59))[::-1]))

    def test_the_ways_are_new_lists(self):
        tree, other = tower(4, range(4)), tower(4, range(3, -1, -1))
        told = way_between(tree, other)
        kept = [(list(way), arm) for way, arm in told]
        for way, _ in told:
            way.append(7)
        told.clear()
        self.assertEqual(way_between(tree, other), kept)
        way_between(tree, tree).append(7)
        self.assertEqual(way_between(tree, tree), [])


class OtherWebs(unittest.TestCase):
    def check(self, tree, other):
        for one in (tree, other):
            self.assertIs(checked_tree(one), True)
        self.assertNotEqual(web_of(tree), web_of(other))
        refused(self, OtherWeb, way_between, tree, other)
        refused(self, OtherWeb, way_between, other, tree)

    def test_other_links(self):
        knots = [A, A, NOT_A, NOT_A, ("both", 0, 1)]
        straight = (knots, ("both", 4, ("link", 0, 2), ("link", 1, 3)))
        crossed = (knots, ("both", 4, ("link", 0, 3), ("link", 1, 2)))
        self.check(straight, crossed)

    def test_other_cuts(self):
        knots = [A, NOT_A, A, NOT_A]
        links = (("link", 0, 1), ("link", 2, 3))
        tree = (knots, ("cut", 1, 2) + links)
        self.check(tree, (knots, ("cut", 3, 0) + links[::-1]))
        self.check(tree, (knots, ("cut", 2, 1) + links[::-1]))
        self.check(tree, (knots, ("cut", 0, 3) + links))

    def test_other_knots(self):
        tree = ([A, NOT_A], ("link", 0, 1))
        self.check(tree, ([B, NOT_B], ("link", 0, 1)))
        self.check(tree, ([NOT_A, A], ("link", 0, 1)))
        self.check(tree, ([A, NOT_A, None], ("link", 0, 1)))
        self.check(tree, ([None, A, NOT_A], ("link", 1, 2)))
        self.check(tree, ([A, NOT_A, ("either", 0, 1)], ("either", 2, ("link", 0, 1))))

    def test_other_parts(self):
        either = ("either", 2, ("link", 0, 1))
        self.check(([A, NOT_A, ("either", 0, 1)], either), ([A, NOT_A, ("either", 1, 0)], either))
        knots = [A, NOT_A, B, NOT_B]
        links = (("link", 0, 1), ("link", 2, 3))
        tree = (knots + [("both", 0, 2)], ("both", 4) + links)
        self.check(tree, (knots + [("both", 1, 2)], ("both", 4) + links))
        self.check(tree, (knots + [("both", 2, 0)], ("both", 4) + links[::-1]))

    def test_the_same_rules_on_knots_of_other_names(self):
        for tree in thrown_trees(range(0, 10, 2), (12, 20)):
            names = {"a": "b", "b": "c", "c": "a"}
            knots = [(knot[0], names[knot[1]]) if knot and len(knot) == 2 else knot for knot in tree[0]]
            self.check(tree, (knots, tree[1]))

    def test_more_and_fewer_rules(self):
        trees = [chain_of_cuts(count) for count in (1, 2, 3, 60)] + [tower(2, [0, 1]), mixed_tree()]
        for tree, other in itertools.combinations(trees, 2):
            self.check(tree, other)
        for tree in thrown_trees(range(6), (12, 120)):
            self.check(tree, shifted(tree))

    def test_other_links_on_the_same_knots(self):
        count = 0
        for seed, tree in enumerate(thrown_trees(range(1, 60, 2), (10, 16))):
            web = web_of(tree)
            for other in (two_swapped(web, seed), relinked(web, seed)):
                trees = trees_of(other)
                if other != web and trees:
                    self.check(tree, trees[0])
                    count += 1
        self.assertGreater(count, 10)


if __name__ == "__main__":
    unittest.main()
