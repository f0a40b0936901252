"""Points 31 to 34, and point 1 for oncewise.trees."""

import unittest

from oncewise.errors import BadTree
from oncewise.trees import checked_tree, tree_ends, web_of
from oncewise.webs import are_knots, checked_web, ends_of, word_at
from oncewise.words import turned
from samples import (
    A, B, C, NOT_A, NOT_B, NOT_C, Growing, chain_of_cuts, cut_mirrors, deep_left, deep_right, mirror_tree,
    mixed_tree, refused, shifted, sound_trees, unchanged, wide,
)

FAR = 10 ** 30
VERY_FAR = 10 ** 5000

FOUR = [A, NOT_A, B, NOT_B]
FIRST = ("link", 0, 1)
SECOND = ("link", 2, 3)


def plain_ends(knots, rule):
    """Point 32, word for word; knots out of range have no parts."""
    kind = rule[0]
    if kind == "link":
        return {rule[1], rule[2]}
    arms = [part for part in rule if isinstance(part, tuple)]
    ends = set().union(*[plain_ends(knots, arm) for arm in arms])
    if kind == "cut":
        return ends - {rule[1], rule[2]}
    knot = knots[rule[1]] if 0 <= rule[1] < len(knots) else None
    return (ends - set(knot[1:] if knot else ())) | {rule[1]}


def all_rules(rule):
    found = [rule]
    for part in rule:
        if isinstance(part, tuple):
            found += all_rules(part)
    return found


def holds(knots, rule):
    """What point 33 asks of one rule, where each place is told once."""
    kind = rule[0]
    if kind == "link":
        p, q = knots[rule[1]], knots[rule[2]]
        return rule[1] < rule[2] and {p[0], q[0]} == {"plain", "turned"} and p[1] == q[1]
    arms = [plain_ends(knots, part) for part in rule if isinstance(part, tuple)]
    if kind == "cut":
        p, q = rule[1], rule[2]
        return p in arms[0] and q in arms[1] and word_at(knots, q) == turned(word_at(knots, p))
    knot = knots[rule[1]]
    if knot[0] != kind:
        return False
    if kind == "either":
        return {knot[1], knot[2]} <= arms[0]
    return knot[1] in arms[0] and knot[2] in arms[1]


def is_sound(tree):
    """Point 33, word for word."""
    knots, rule = tree
    if not are_knots(knots):
        return False
    told = []
    for inner in all_rules(rule):
        told += {"link": inner[1:3], "cut": ()}.get(inner[0], inner[1:2])
    if sorted(told) != [place for place, knot in enumerate(knots) if knot is not None]:
        return False
    return all(holds(knots, inner) for inner in all_rules(rule))


def numbers_replaced(rule, numbers):
    """All rules that differ from this one in one number."""
    for at, part in enumerate(rule):
        if isinstance(part, int):
            for number in numbers:
                if number != part:
                    yield rule[:at] + (number,) + rule[at + 1:]
        elif isinstance(part, tuple):
            for inner in numbers_replaced(part, numbers):
                yield rule[:at] + (inner,) + rule[at + 1:]


def reshaped(rule):
    """All rules that differ from this one by one step: another kind, arms exchanged, a rule left out or doubled."""
    for at, part in enumerate(rule):
        if isinstance(part, tuple):
            for inner in reshaped(part):
                yield rule[:at] + (inner,) + rule[at + 1:]
    if rule[0] == "link":
        yield ("link", rule[2], rule[1])
        yield ("cut", rule[1], rule[2], rule, rule)
    if rule[0] == "either":
        yield rule[2]
        yield ("both", rule[1], rule[2], rule[2])
    if rule[0] in ("both", "cut"):
        yield rule[:-2] + (rule[-1], rule[-2])
        yield rule[-1]
        yield rule[-2]
        yield rule[:-2] + (rule[-2], rule[-2])
        yield ("either", rule[1], rule[-1])
    if rule[0] == "both":
        yield ("cut", rule[1], rule[1], rule[2], rule[3])
    if rule[0] == "cut":
        yield ("cut", rule[2], rule[1], rule[3], rule[4])
        yield ("cut", rule[2], rule[1], rule[4], rule[3])
        yield ("both", rule[1], rule[3], rule[4])
    for place in (rule[1], 0, 2):
        yield ("either", place, rule)


class SoundTrees(unittest.TestCase):
    def test_the_samples(self):
        for tree in sound_trees():
            with self.subTest(tree=tree):
                self.assertTrue(is_sound(tree))
                self.assertIs(unchanged(self, checked_tree, tree), True)

    def test_one_rule_of_each_kind(self):
        self.assertIs(checked_tree(([A, NOT_A], ("link", 0, 1))), True)
        self.assertIs(checked_tree(([NOT_A, A], ("link", 0, 1))), True)
        self.assertIs(checked_tree(([A, NOT_A, ("either", 0, 1)], ("either", 2, FIRST))), True)
        self.assertIs(checked_tree((FOUR + [("both", 0, 2)], ("both", 4, FIRST, SECOND))), True)
        self.assertIs(checked_tree(([A, NOT_A, A, NOT_A], ("cut", 0, 3, FIRST, SECOND))), True)
        self.assertIs(checked_tree(([A, NOT_A, A, NOT_A], ("cut", 2, 1, SECOND, FIRST))), True)

    def test_a_part_may_be_any_end_of_its_arm(self):
        for left in (0, 1):
            for right in (2, 3):
                tree = (FOUR + [("both", left, right)], ("both", 4, FIRST, SECOND))
                self.assertIs(checked_tree(tree), True)
                tree = (FOUR + [("both", right, left)], ("both", 4, SECOND, FIRST))
                self.assertIs(checked_tree(tree), True)

    def test_gone_places(self):
        self.assertIs(checked_tree(([None, A, None, NOT_A, None], ("link", 1, 3))), True)
        for tree in sound_trees():
            for by, every in ((0, 1), (2, 3)):
                self.assertIs(checked_tree(shifted(tree, by, every)), True)

    def test_great_trees(self):
        for word in (deep_left(15), deep_right(15, "either"), wide(15)):
            self.assertEqual(len(cut_mirrors(word)[0]), 116)
            self.assertIs(unchanged(self, checked_tree, cut_mirrors(word)), True)
        for word in (deep_left(30), deep_right(30), deep_left(30, "either"), wide(30)):
            self.assertEqual(len(mirror_tree(word)[0]), 118)
            self.assertIs(unchanged(self, checked_tree, mirror_tree(word)), True)
        for count in (1, 2, 60, 75):
            self.assertIs(unchanged(self, checked_tree, chain_of_cuts(count)), True)

    def test_a_hundred_and_fifty_rules_within_one_another(self):
        self.assertIs(unchanged(self, checked_tree, chain_of_cuts(150)), True)


class BrokenTrees(unittest.TestCase):
    def refuse(self, knots, rule):
        self.assertFalse(is_sound((knots, rule)), (knots, rule))
        refused(self, BadTree, checked_tree, (knots, rule))


class BrokenKnots(BrokenTrees):
    def test_no_place_that_is_not_gone(self):
        for knots in ([], [None], [None, None]):
            self.refuse(knots, ("link", 0, 1))
            self.refuse(knots, ("cut", 0, 1, ("link", 0, 1), ("link", 0, 1)))

    def test_knots_that_are_not_sound(self):
        for knot in (("either", 0, 0), ("either", 0, 2), ("either", 0, 3), ("either", -1, 0), ("either", 0, FAR)):
            self.refuse([A, NOT_A, knot], ("either", 2, FIRST))
        self.refuse([("either", 1, 2), A, NOT_A], ("either", 0, ("link", 1, 2)))
        self.refuse([A, NOT_A, None, ("either", 0, 2)], ("either", 3, FIRST))
        self.refuse([A, NOT_A, None, ("both", 0, 2)], ("link", 0, 1))

    def test_a_part_of_two_knots(self):
        knots = [A, NOT_A, ("either", 0, 1), ("either", 0, 1)]
        self.refuse(knots, ("either", 3, ("either", 2, FIRST)))
        knots = [A, NOT_A, ("either", 0, 1), ("either", 1, 2)]
        self.refuse(knots, ("either", 3, ("either", 2, FIRST)))

    def test_a_word_of_endless_size_is_refused_soon(self):
        knots = [A, NOT_A]
        rule = FIRST
        for place in range(2, 118):
            knots.append(("either", place - 1, place - 2))
            rule = ("either", place, rule)
        self.refuse(knots, rule)
        cut = ("cut", 117, 118, rule, ("link", 118, 119))
        refused(self, BadTree, checked_tree, (knots + [A, NOT_A], cut))


class BrokenPlaces(BrokenTrees):
    def test_told_twice(self):
        self.refuse(FOUR[:2], ("cut", 0, 1, FIRST, FIRST))
        self.refuse([A, NOT_A, ("either", 0, 1)], ("either", 2, ("either", 2, FIRST)))
        self.refuse([A, NOT_A, ("both", 0, 1)], ("both", 2, FIRST, FIRST))
        self.refuse([A, NOT_A, NOT_A], ("cut", 0, 2, FIRST, ("link", 0, 2)))
        self.refuse([A, NOT_A], ("link", 0, 0))

    def test_told_by_no_rule(self):
        self.refuse(FOUR, FIRST)
        self.refuse([A, NOT_A, ("either", 0, 1)], FIRST)
        self.refuse([A, NOT_A, ("both", 0, 1)], FIRST)
        self.refuse([A, NOT_A, B], FIRST)

    def test_gone(self):
        self.refuse([A, NOT_A, None], ("either", 2, FIRST))
        self.refuse([A, NOT_A, None], ("both", 2, FIRST, FIRST))
        self.refuse([A, None], FIRST)
        self.refuse([A, None, NOT_A], FIRST)
        self.refuse([None, A, NOT_A], FIRST)
        self.refuse([A, NOT_A, None, None], ("cut", 0, 2, FIRST, SECOND))
        self.refuse([A, NOT_A, None, A, NOT_A], ("cut", 0, 2, FIRST, ("link", 3, 4)))
        self.refuse([A, NOT_A, None, A, NOT_A], ("cut", 2, 4, FIRST, ("link", 3, 4)))

    def test_below_nought_or_too_great(self):
        for place in (-1, -2, -3, 3, 4, 120, -FAR, FAR, -VERY_FAR, VERY_FAR):
            self.refuse([A, NOT_A, ("either", 0, 1)], ("either", place, FIRST))
            self.refuse([A, NOT_A, ("both", 0, 1)], ("both", place, FIRST, FIRST))
            self.refuse([A, NOT_A, ("either", 0, 1)], ("either", 2, ("link", 0, place)))
            self.refuse([A, NOT_A, ("either", 0, 1)], ("either", 2, ("link", place, 1)))
        for place in (-1, -2, -4, 4, 5, -FAR, FAR, -VERY_FAR, VERY_FAR):
            self.refuse([A, NOT_A, A, NOT_A], ("cut", place, 3, FIRST, SECOND))
            self.refuse([A, NOT_A, A, NOT_A], ("cut", 0, place, FIRST, SECOND))

    def test_rules_that_share_an_arm_again_and_again_are_refused_soon(self):
        for head in (("both", 2), ("cut", 0, 1)):
            rule = FIRST
            for _ in range(149):
                rule = head + (rule, rule)
            with self.assertRaises(BadTree):
                checked_tree(([A, NOT_A, ("both", 0, 1)], rule))


class BrokenRules(BrokenTrees):
    def test_a_link_turned_about(self):
        self.refuse([A, NOT_A], ("link", 1, 0))
        self.refuse([NOT_A, A], ("link", 1, 0))
        self.refuse(FOUR + [("both", 0, 2)], ("both", 4, FIRST, ("link", 3, 2)))

    def test_a_link_of_unlike_leaves(self):
        self.refuse([A, NOT_B], FIRST)
        self.refuse([A, A], FIRST)
        self.refuse([NOT_A, NOT_A], FIRST)
        self.refuse([A, B], FIRST)
        self.refuse(FOUR + [("both", 0, 2)], ("both", 4, ("link", 0, 3), ("link", 1, 2)))

    def test_a_link_of_what_is_no_leaf(self):
        knots = [A, B, ("both", 0, 1), NOT_A, NOT_B, ("either", 3, 4)]
        self.refuse(knots, ("cut", 0, 1, ("cut", 0, 1, ("link", 0, 3), ("link", 1, 4)), ("link", 2, 5)))
        self.refuse([A, NOT_A, ("either", 0, 1), A], ("cut", 0, 2, FIRST, ("link", 2, 3)))

    def test_a_rule_of_another_kind_than_its_knot(self):
        self.refuse([A, NOT_A, ("both", 0, 1)], ("either", 2, FIRST))
        self.refuse(FOUR + [("either", 0, 2)], ("both", 4, FIRST, SECOND))
        self.refuse([A, NOT_A, A, NOT_A], ("both", 0, ("link", 1, 2), ("link", 2, 3)))
        self.refuse([A, NOT_A, B], ("either", 2, FIRST))
        self.refuse([A, NOT_A, NOT_B], ("either", 2, FIRST))

    def test_parts_of_an_either_that_are_no_ends_of_its_arm(self):
        knots = FOUR + [("either", 0, 2), ("both", 1, 3)]
        self.refuse(knots, ("both", 5, ("either", 4, FIRST), SECOND))
        self.refuse(knots, ("both", 5, FIRST, ("either", 4, SECOND)))
        self.assertIs(checked_tree((knots, ("either", 4, ("both", 5, FIRST, SECOND)))), True)
        taken = FOUR + [("both", 0, 2), ("either", 0, 1)]
        self.refuse(taken, ("either", 5, ("both", 4, FIRST, SECOND)))
        cut = [A, NOT_A, A, NOT_A, ("either", 0, 3)]
        self.assertIs(checked_tree((cut, ("either", 4, ("cut", 1, 2, FIRST, SECOND)))), True)
        self.refuse(cut, ("either", 4, ("cut", 0, 3, FIRST, SECOND)))
        cut[4] = ("either", 1, 3)
        self.refuse(cut, ("either", 4, ("cut", 1, 2, FIRST, SECOND)))

    def test_parts_of_a_both_that_are_no_ends_of_their_arms(self):
        self.refuse(FOUR + [("both", 0, 2)], ("both", 4, SECOND, FIRST))
        self.refuse(FOUR + [("both", 0, 1)], ("both", 4, FIRST, SECOND))
        self.refuse(FOUR + [("both", 2, 3)], ("both", 4, FIRST, SECOND))
        six = FOUR + [C, NOT_C, ("both", 0, 2), ("both", 0, 4)]
        self.refuse(six, ("both", 7, ("both", 6, FIRST, SECOND), ("link", 4, 5)))

    def test_places_of_a_cut_that_are_no_ends_of_their_arms(self):
        four = [A, NOT_A, A, NOT_A]
        for p, q in [(0, 3), (1, 2)]:
            self.assertIs(checked_tree((four, ("cut", p, q, FIRST, SECOND))), True)
            self.refuse(four, ("cut", q, p, FIRST, SECOND))
            self.refuse(four, ("cut", p, q, SECOND, FIRST))
        for p, q in [(0, 1), (1, 0), (2, 3), (3, 2), (0, 0)]:
            self.refuse(four, ("cut", p, q, FIRST, SECOND))

    def test_places_of_a_cut_that_are_taken_already(self):
        knots = [A, NOT_A, A, NOT_A, ("either", 0, 1)]
        self.refuse(knots, ("cut", 0, 3, ("either", 4, FIRST), SECOND))
        self.refuse(knots, ("either", 4, ("cut", 0, 3, FIRST, SECOND)))
        six = [A, NOT_A, A, NOT_A, A, NOT_A]
        self.refuse(six, ("cut", 1, 4, ("cut", 1, 2, FIRST, SECOND), ("link", 4, 5)))

    def test_a_cut_of_words_that_are_not_each_others_turned_side(self):
        self.refuse([A, NOT_A, A, NOT_A], ("cut", 0, 2, FIRST, SECOND))
        self.refuse([A, NOT_A, A, NOT_A], ("cut", 1, 3, FIRST, SECOND))
        self.refuse(FOUR, ("cut", 0, 3, FIRST, SECOND))
        self.refuse([A, NOT_A, ("either", 0, 1), A, NOT_A], ("cut", 2, 3, ("either", 2, FIRST), ("link", 3, 4)))

    def test_a_cut_of_words_that_differ_deep_within(self):
        for first, second in [
            (("both", A, B), ("both", A, B)),
            (("both", A, B), ("either", A, B)),
            (("both", A, B), ("either", NOT_B, NOT_A)),
            (("both", ("either", A, B), C), ("either", ("both", NOT_A, NOT_B), C)),
            (("both", ("either", A, B), C), ("either", ("either", NOT_A, NOT_B), NOT_C)),
        ]:
            grown = Growing()
            left, p, _ = grown.mirror(first)
            right, q, _ = grown.mirror(second)
            self.refuse(grown.knots, ("cut", p, q, left, right))
        for word in (("both", A, B), ("both", ("either", A, B), C)):
            grown = Growing()
            left, p, _ = grown.mirror(word)
            right, q, _ = grown.mirror(turned(word))
            self.assertIs(checked_tree((grown.knots, ("cut", p, q, left, right))), True)


class BesideThePoint(unittest.TestCase):
    """Trees that differ from a sound one by one step are sound just where point 33, word for word, holds."""

    def check(self, tree):
        if is_sound(tree):
            self.assertIs(checked_tree(tree), True)
        else:
            refused(self, BadTree, checked_tree, tree)

    def test_one_number(self):
        for knots, rule in sound_trees():
            for other in numbers_replaced(rule, [-FAR, FAR] + list(range(-2, len(knots) + 2))):
                self.check((knots, other))

    def test_one_knot(self):
        for knots, rule in sound_trees():
            for at, knot in enumerate(knots):
                for other in [None, A, NOT_A, B, ("both", 0, 1), ("either", 0, 1), ("either", 1, 0), ("both", 1, 2)]:
                    if other != knot:
                        self.check((knots[:at] + [other] + knots[at + 1:], rule))
            self.check((knots + [None], rule))
            self.check((knots + [A], rule))
            self.check((knots[:-1], rule))

    def test_one_rule(self):
        for knots, rule in sound_trees():
            for other in reshaped(rule):
                self.check((knots, other))


class Ends(unittest.TestCase):
    def test_of_each_rule(self):
        self.assertEqual(tree_ends(([A, NOT_A], FIRST)), [0, 1])
        self.assertEqual(tree_ends(([A, NOT_A, ("either", 0, 1)], ("either", 2, FIRST))), [2])
        self.assertEqual(tree_ends((FOUR + [("both", 0, 2)], ("both", 4, FIRST, SECOND))), [1, 3, 4])
        self.assertEqual(tree_ends((FOUR + [("both", 3, 1)], ("both", 4, SECOND, FIRST))), [0, 2, 4])
        self.assertEqual(tree_ends(([A, NOT_A, A, NOT_A], ("cut", 0, 3, FIRST, SECOND))), [1, 2])
        self.assertEqual(tree_ends(([A, NOT_A, A, NOT_A], ("cut", 2, 1, SECOND, FIRST))), [0, 3])

    def test_rising_also_where_higher_places_are_told_further_out(self):
        self.assertEqual(tree_ends(mixed_tree()), [5, 12])
        self.assertEqual(tree_ends((FOUR + [("both", 2, 0)], ("both", 4, SECOND, FIRST))), [1, 3, 4])
        self.assertEqual(tree_ends(chain_of_cuts(4)), [1, 6])

    def test_as_point_32_tells_word_for_word(self):
        for knots, rule in sound_trees():
            self.assertEqual(tree_ends((knots, rule)), sorted(plain_ends(knots, rule)))


class WebOf(unittest.TestCase):
    def test_of_each_rule(self):
        self.assertEqual(web_of(([A, NOT_A], FIRST)), ([A, NOT_A], [(0, 1)], []))
        knots = FOUR + [("both", 2, 0)]
        self.assertEqual(web_of((knots, ("both", 4, SECOND, FIRST))), (knots, [(0, 1), (2, 3)], []))
        knots = [None, A, NOT_A, ("either", 1, 2)]
        self.assertEqual(web_of((knots, ("either", 3, ("link", 1, 2)))), (knots, [(1, 2)], []))
        four = [A, NOT_A, A, NOT_A]
        self.assertEqual(web_of((four, ("cut", 2, 1, SECOND, FIRST))), (four, [(0, 1), (2, 3)], [(2, 1)]))

    def test_links_and_cuts_rise(self):
        web = web_of(chain_of_cuts(4))
        self.assertEqual(web[1], [(0, 1), (2, 3), (4, 5), (6, 7)])
        self.assertEqual(web[2], [(3, 0), (5, 2), (7, 4)])
        self.assertEqual(web_of(mixed_tree())[1:], ([(1, 2), (3, 4), (7, 8), (9, 10)], [(6, 11)]))

    def test_sound_with_the_ends_and_knots_of_the_tree(self):
        trees = sound_trees() + [mirror_tree(deep_left(30)), cut_mirrors(wide(15)), chain_of_cuts(60)]
        for tree in trees:
            with self.subTest(tree=tree):
                web = unchanged(self, web_of, tree)
                self.assertIs(checked_web(web), True)
                self.assertEqual(web[0], tree[0])
                self.assertEqual(ends_of(web), tree_ends(tree))
                self.assertEqual((web[1], web[2]), (sorted(web[1]), sorted(web[2])))
                kinds = [inner[0] for inner in all_rules(tree[1])]
                self.assertEqual((len(web[1]), len(web[2])), (kinds.count("link"), kinds.count("cut")))

    def test_trees_of_another_order_have_the_same_web(self):
        knots = FOUR + [C, NOT_C, ("both", 1, 2), ("both", 3, 4)]
        third = ("link", 4, 5)
        one = (knots, ("both", 6, FIRST, ("both", 7, SECOND, third)))
        other = (knots, ("both", 7, ("both", 6, FIRST, SECOND), third))
        self.assertNotEqual(one, other)
        self.assertEqual(web_of(one), web_of(other))


class AskersOwn(unittest.TestCase):
    def test_what_is_handed_in_stays(self):
        for tree in sound_trees():
            for call in (checked_tree, tree_ends, web_of):
                unchanged(self, call, tree)

    def test_told_lists_are_new_ones(self):
        for tree in sound_trees():
            kept = list(tree[0])
            web = web_of(tree)
            ends = tree_ends(tree)
            told = (list(web[0]), list(web[1]), list(web[2]))
            self.assertEqual(len({id(part) for part in web + (tree[0],)}), 4)
            for part in web + (ends,):
                part.append(99)
            self.assertEqual(tree[0], kept)
            self.assertEqual(web_of(tree), told)
            self.assertEqual(tree_ends(tree), ends[:-1])


if __name__ == "__main__":
    unittest.main()
