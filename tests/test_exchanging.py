"""Points 71 and 72, what point 73 says of one exchange, and point 1 for oncewise.exchanging."""

import unittest

from oncewise.errors import NoExchange
from oncewise.exchanging import exchanged, exchanges_of
from oncewise.trees import checked_tree, web_of
from samples import (
    A, B, C, Growing, NOT_A, NOT_B, NOT_C, all_ways, chain_of_cuts, cut_mirrors, deep_left, deep_right, mirror_tree,
    mixed_tree, plain_arms, refused, rule_at, shifted, sound_trees, thrown_trees, tower, unchanged, wide,
)

GREAT = 10 ** 5000


def plain_ends(knots, rule):
    """Point 32, word for word."""
    if rule[0] == "link":
        return {rule[1], rule[2]}
    if rule[0] == "either":
        return plain_ends(knots, rule[2]) - set(knots[rule[1]][1:]) | {rule[1]}
    ends = plain_ends(knots, rule[-2]) | plain_ends(knots, rule[-1])
    if rule[0] == "both":
        return ends - set(knots[rule[1]][1:]) | {rule[1]}
    return ends - {rule[1], rule[2]}


def round_either(knots, s, r):
    """The first two rows of point 71, word for word."""
    parts = set(knots[s[1]][1:])
    if r[0] == "either" and r[1] not in parts:
        return ("either", r[1], ("either", s[1], r[2]))
    if r[0] == "cut" or r[0] == "both" and r[1] not in parts:
        first, second = r[-2:]
        if parts <= plain_ends(knots, first):
            return r[:-2] + (("either", s[1], first), second)
        if parts <= plain_ends(knots, second):
            return r[:-2] + (first, ("either", s[1], second))
    return None


def round_two_arms(knots, s, r, arm):
    """The last two rows of point 71, word for word."""
    taken = s[1 + arm] if s[0] == "cut" else knots[s[1]][1 + arm]
    other = s[-1] if arm == 0 else s[-2]

    def s_with(inner):
        return s[:-2] + ((inner, other) if arm == 0 else (other, inner))

    if r[0] == "either" and r[1] != taken:
        return ("either", r[1], s_with(r[2]))
    if r[0] == "cut" or r[0] == "both" and r[1] != taken:
        first, second = r[-2:]
        if taken in plain_ends(knots, first):
            return r[:-2] + (s_with(first), second)
        return r[:-2] + (first, s_with(second))
    return None


def plain_exchange(knots, rule, way, arm):
    """The rule behind the exchange; None where it can't be done."""
    arms = plain_arms(rule)
    if way:
        inner = plain_exchange(knots, arms[way[0]], way[1:], arm)
        arms[way[0]] = inner
        return None if inner is None else rule[:-len(arms)] + tuple(arms)
    if rule[0] == "either":
        return round_either(knots, rule, arms[arm])
    return round_two_arms(knots, rule, arms[arm], arm)


def all_pairs(tree):
    return [(way, arm) for way in all_ways(tree) for arm in range(len(plain_arms(rule_at(tree, way))))]


def plain_exchanges(tree):
    pairs = [pair for pair in all_pairs(tree) if plain_exchange(tree[0], tree[1], *pair) is not None]
    return sorted(pairs)


class Bunch:
    """A rule of four ends: a plain and a turned leaf of one NAME, and two both knots."""

    def __init__(self, grown):
        links = [grown.link() for _ in range(3)]
        first = grown.both(links[0][2], links[1][1], links[0], links[1])
        self.rule = grown.both(links[1][2], links[2][1], first, links[2])
        self.plain = links[0][1]
        self.turned = links[2][2]
        self.knots = (first[1], self.rule[1])


def head_of_r(grown, kind, arms):
    if kind == "either":
        return ("either", grown.put(("either",) + arms[0].knots))
    if kind == "both":
        return ("both", grown.put(("both", arms[0].knots[0], arms[1].knots[0])))
    return ("cut", arms[0].plain, arms[1].turned)


def head_of_s(grown, kind, taken, far, arm):
    """Of a both and a cut: what it takes on this side and on the far one."""
    pair = (taken, far) if arm == 0 else (far, taken)
    return ("cut",) + pair if kind == "cut" else (kind, grown.put((kind,) + pair))


def two_rules(s, r, arm, side):
    """Knots and a rule s of such a kind, whose arm is an r, of whose arm `side` are the ends that s takes;
    and what it becomes."""
    grown = Growing()
    arms = [Bunch(grown) for _ in range(1 if r == "either" else 2)]
    bunch = arms[side]
    inner = head_of_r(grown, r, arms)
    rules = [arm_of_r.rule for arm_of_r in arms]
    if s == "either":
        parts = bunch.knots if r == "cut" else (bunch.turned, bunch.plain)
        outer = ("either", grown.put(("either",) + parts))
        moved = outer + (rules[side],)
        before = outer + (inner + tuple(rules),)
    else:
        beside = Bunch(grown)
        far = beside.knots[0] if s == "both" else (beside.plain, beside.turned)[side]
        outer = head_of_s(grown, s, (bunch.turned, bunch.plain)[side], far, arm)
        order = 1 if arm == 0 else -1
        moved = outer + (rules[side], beside.rule)[::order]
        before = outer + (inner + tuple(rules), beside.rule)[::order]
    rules[side] = moved
    return (grown, before, inner + tuple(rules))


def all_two_rules():
    for s in ("either", "both", "cut"):
        for r in ("either", "both", "cut"):
            for arm in range(1 if s == "either" else 2):
                for side in range(1 if r == "either" else 2):
                    yield (s, r, arm, side)


def wrapped(grown, rules):
    """Both rules, each within others, and the way that leads to it there."""
    end = min(plain_ends(grown.knots, rules[0]))
    near = Bunch(grown)
    far = Bunch(grown)
    grown.put(None)
    first = grown.put(("both", near.knots[0], end))
    second = grown.put(("either", near.plain, first))
    third = grown.put(("both", second, far.plain))
    trees = []
    for rule in rules:
        rule = ("either", second, ("both", first, near.rule, rule))
        trees.append((grown.knots, ("both", third, rule, far.rule)))
    return (trees[0], trees[1], [0, 0, 1])


def two_sided():
    """A cut in the middle of a row of links, with a cut in each of its arms."""
    knots = [A, NOT_A] * 4
    links = [("link", 2 * number, 2 * number + 1) for number in range(4)]
    arms = [("cut", 1, 2, links[0], links[1]), ("cut", 5, 6, links[2], links[3])]
    return (knots, ("cut", 3, 4, arms[0], arms[1]))


def some_trees():
    trees = sound_trees() + [mixed_tree(), tower(3, [0, 1, 2]), chain_of_cuts(7)]
    trees += [mirror_tree(wide(6)), cut_mirrors(("either", ("both", A, B), A))]
    trees += [(two[0].knots, two[1]) for two in [two_rules(*kinds) for kinds in all_two_rules()]]
    return trees + thrown_trees(range(40), (8, 14, 20, 30))


class Rows(unittest.TestCase):
    """Point 71, each of its rows."""

    def check(self, tree, way, arm, other):
        self.assertIs(checked_tree(tree), True)
        self.assertIs(checked_tree(other), True)
        self.assertEqual(unchanged(self, exchanged, tree, way, arm), other)
        self.assertIn((way, arm), exchanges_of(tree))

    def check_not(self, tree, way, arm):
        self.assertIs(checked_tree(tree), True)
        refused(self, NoExchange, exchanged, tree, way, arm)
        self.assertNotIn((way, arm), exchanges_of(tree))

    def test_each_pair_of_kinds(self):
        for kinds in all_two_rules():
            with self.subTest(kinds=kinds):
                grown, before, after = two_rules(*kinds)
                self.assertEqual((before[0], plain_arms(before)[kinds[2]][0]), kinds[:2])
                self.assertEqual((after[0], plain_arms(after)[kinds[3]][0]), kinds[1::-1])
                self.check((grown.knots, before), [], kinds[2], (grown.knots, after))

    def test_each_pair_of_kinds_within_other_rules(self):
        for kinds in all_two_rules():
            with self.subTest(kinds=kinds):
                grown, before, after = two_rules(*kinds)
                tree, other, way = wrapped(grown, (before, after))
                self.check(tree, way, kinds[2], other)

    def test_either_round_either(self):
        knots = [A, NOT_A, B, NOT_B, ("both", 1, 2), C, NOT_C, ("both", 3, 5), ("either", 0, 4), ("either", 6, 7)]
        inner = ("both", 7, ("both", 4, ("link", 0, 1), ("link", 2, 3)), ("link", 5, 6))
        tree = (knots, ("either", 9, ("either", 8, inner)))
        self.check(tree, [], 0, (knots, ("either", 8, ("either", 9, inner))))

    def test_either_round_both(self):
        knots = [A, NOT_A, B, NOT_B, ("both", 1, 2), C, NOT_C, ("both", 3, 5), ("either", 0, 4)]
        first = ("both", 4, ("link", 0, 1), ("link", 2, 3))
        tree = (knots, ("either", 8, ("both", 7, first, ("link", 5, 6))))
        self.check(tree, [], 0, (knots, ("both", 7, ("either", 8, first), ("link", 5, 6))))

    def test_cut_round_cut(self):
        knots = [A, NOT_A, A, NOT_A, A, NOT_A]
        links = [("link", 0, 1), ("link", 2, 3), ("link", 4, 5)]
        left = (knots, ("cut", 3, 4, ("cut", 1, 2, links[0], links[1]), links[2]))
        right = (knots, ("cut", 1, 2, links[0], ("cut", 3, 4, links[1], links[2])))
        self.check(left, [], 0, right)
        self.check(right, [], 1, left)

    def test_links_come_out_of_nothing(self):
        self.check_not(([A, NOT_A, ("either", 0, 1)], ("either", 2, ("link", 0, 1))), [], 0)
        beside = ([A, NOT_A, B, NOT_B, ("both", 0, 3)], ("both", 4, ("link", 0, 1), ("link", 2, 3)))
        cut = chain_of_cuts(2)
        for arm in (0, 1):
            self.check_not(beside, [], arm)
            self.check_not(cut, [], arm)

    def test_the_inner_place_is_a_part_of_an_either(self):
        knots = [A, NOT_A, B, NOT_B, ("both", 1, 2), ("either", 0, 3), ("either", 5, 4)]
        inner = ("both", 4, ("link", 0, 1), ("link", 2, 3))
        self.check_not((knots, ("either", 6, ("either", 5, inner))), [], 0)
        knots = knots[:5] + [("either", 4, 0)]
        self.check_not((knots, ("either", 5, inner)), [], 0)
        knots = knots[:5] + [("either", 3, 4)]
        self.check_not((knots, ("either", 5, inner)), [], 0)

    def test_the_parts_of_an_either_are_ends_of_two_arms(self):
        knots = [A, NOT_A, B, NOT_B, ("both", 1, 2)]
        inner = ("both", 4, ("link", 0, 1), ("link", 2, 3))
        for parts in ((0, 3), (3, 0)):
            self.check_not((knots + [("either",) + parts], ("either", 5, inner)), [], 0)
        knots = [A, NOT_A, A, NOT_A]
        inner = ("cut", 1, 2, ("link", 0, 1), ("link", 2, 3))
        for parts in ((0, 3), (3, 0)):
            self.check_not((knots + [("either",) + parts], ("either", 4, inner)), [], 0)

    def test_a_both_takes_the_inner_place(self):
        closed = ("either", 2, ("link", 0, 1))
        knots = [A, NOT_A, ("either", 0, 1), B, NOT_B]
        self.check_not((knots + [("both", 2, 3)], ("both", 5, closed, ("link", 3, 4))), [], 0)
        self.check_not((knots + [("both", 3, 2)], ("both", 5, ("link", 3, 4), closed)), [], 1)
        inner = ("both", 4, ("link", 0, 1), ("link", 2, 3))
        knots = [A, NOT_A, B, NOT_B, ("both", 1, 2), C, NOT_C]
        self.check_not((knots + [("both", 4, 5)], ("both", 7, inner, ("link", 5, 6))), [], 0)
        self.check_not((knots + [("both", 5, 4)], ("both", 7, ("link", 5, 6), inner)), [], 1)

    def test_a_cut_takes_the_inner_place(self):
        """Of two mirrors the one's outermost rule is what the cut takes, the other's is not."""
        for word in (("both", A, B), ("either", A, B)):
            tree = cut_mirrors(word)
            knots = tree[0]
            first, second = tree[1][3:]
            self.assertEqual((first[0], second[0]), ("either", "either"))
            taken = {0: tree[1][1] == first[1], 1: tree[1][2] == second[1]}
            self.assertEqual(sorted(taken.values()), [False, True])
            for arm in (0, 1):
                inner = tree[1][3 + arm]
                if taken[arm]:
                    self.check_not(tree, [], arm)
                    turned = (knots, ("cut", tree[1][2], tree[1][1], second, first))
                    self.check_not(turned, [], 1 - arm)
                else:
                    arms = [first, second]
                    arms[arm] = inner[2]
                    other = ("either", inner[1], tree[1][:3] + tuple(arms))
                    self.check(tree, [], arm, (knots, other))

    def test_a_cut_takes_the_place_of_a_both(self):
        grown = Growing()
        links = [grown.link("a"), grown.link("b")]
        inner = grown.both(links[0][2], links[1][2], links[0], links[1])
        mirror, _, side = grown.mirror(("both", NOT_A, NOT_B))
        self.check_not(grown.tree(("cut", inner[1], side, inner, mirror)), [], 0)
        self.check_not(grown.tree(("cut", side, inner[1], mirror, inner)), [], 1)

    def test_a_both_takes_an_end_and_not_the_inner_place(self):
        knots = [A, NOT_A, B, NOT_B, ("both", 1, 2), C, NOT_C]
        links = [("link", 0, 1), ("link", 2, 3), ("link", 5, 6)]
        inner = ("both", 4, links[0], links[1])
        for end, arms in ((0, (("both", 7, links[0], links[2]), links[1])),
                          (3, (links[0], ("both", 7, links[1], links[2])))):
            told = knots + [("both", end, 5)]
            self.check((told, ("both", 7, inner, links[2])), [], 0, (told, ("both", 4) + arms))
        for end, arms in ((0, (("both", 7, links[2], links[0]), links[1])),
                          (3, (links[0], ("both", 7, links[2], links[1])))):
            told = knots + [("both", 5, end)]
            self.check((told, ("both", 7, links[2], inner)), [], 1, (told, ("both", 4) + arms))

    def test_word_for_word(self):
        done = 0
        for tree in some_trees():
            for way, arm in all_pairs(tree):
                other = plain_exchange(tree[0], tree[1], way, arm)
                if other is None:
                    refused(self, NoExchange, exchanged, tree, way, arm)
                else:
                    self.assertEqual(unchanged(self, exchanged, tree, way, arm), (tree[0], other))
                    done += 1
        self.assertGreater(done, 500)

    def test_gone_places(self):
        for kinds in all_two_rules():
            grown, before, after = two_rules(*kinds)
            tree = shifted((grown.knots, before))
            self.check(tree, [], kinds[2], shifted((grown.knots, after)))

    def test_great_trees(self):
        count = 0
        for tree in thrown_trees(range(4), (90, 120)) + [tower(16, range(16)), chain_of_cuts(60)]:
            for way, arm in all_pairs(tree):
                other = plain_exchange(tree[0], tree[1], way, arm)
                if other is not None:
                    self.assertEqual(exchanged(tree, way, arm), (tree[0], other))
                    count += 1
        self.assertGreater(count, 100)


class OneExchange(unittest.TestCase):
    """Point 73, what it says of one exchange."""

    def test_the_tree_stays_sound_and_its_web_the_same(self):
        for tree in some_trees() + thrown_trees(range(3), (120,)):
            web = web_of(tree)
            for way, arm in exchanges_of(tree):
                other = exchanged(tree, way, arm)
                self.assertIs(checked_tree(other), True)
                self.assertEqual(web_of(other), web)
                self.assertNotEqual(other, tree)

    def test_each_can_be_undone(self):
        for tree in some_trees():
            for way, arm in exchanges_of(tree):
                other = exchanged(tree, way, arm)
                back = [exchanged(other, way, number) for there, number in exchanges_of(other) if there == way]
                self.assertIn(tree, back)

    def test_told_knots_are_a_new_list(self):
        for tree in (chain_of_cuts(3), tower(2, [0, 1])):
            way, arm = exchanges_of(tree)[0]
            told = exchanged(tree, way, arm)
            self.assertIs(type(told), tuple)
            self.assertEqual(len(told), 2)
            self.assertIsNot(told[0], tree[0])
            told[0].clear()
            self.assertEqual(exchanged(tree, way, arm)[0], tree[0])


class NoRule(unittest.TestCase):
    """Point 72: ways and arms that tell no rule."""

    def check(self, tree, way, arm):
        refused(self, NoExchange, exchanged, tree, way, arm)

    def test_a_link_has_no_arm(self):
        tree = ([A, NOT_A], ("link", 0, 1))
        for arm in (0, 1, -1, 2, GREAT, -GREAT):
            self.check(tree, [], arm)
            self.check(tree, [0], arm)
            self.check(chain_of_cuts(3), [0], arm)

    def test_an_either_has_one_arm(self):
        tree = tower(2, [0, 1])
        self.assertIn(([], 0), exchanges_of(tree))
        for arm in (1, 2, -1, -2, GREAT, -GREAT):
            self.check(tree, [], arm)
            self.check(tree, [arm], 0)

    def test_a_both_and_a_cut_have_two_arms(self):
        for kind in ("both", "cut"):
            grown, before, _ = two_rules(kind, "either", 1, 0)
            tree = (grown.knots, before)
            self.assertIn(([], 1), exchanges_of(tree))
            for arm in (2, 3, -1, -2, -3, GREAT, -GREAT):
                self.check(tree, [], arm)
                self.check(tree, [arm], 0)

    def test_ways_that_go_astray(self):
        grown, before, after = two_rules("cut", "both", 0, 1)
        tree, _, way = wrapped(grown, (before, after))
        self.assertIn((way, 0), exchanges_of(tree))
        for at in range(len(way)):
            for number in (-1, -2, 2, 7, GREAT, -GREAT):
                self.check(tree, way[:at] + [number] + way[at + 1:], 0)
                self.check(tree, way[:at] + [number], 0)
        for longer in ([0] * 40, way + [0] * 30, [1] * 50, [0] * 3000):
            self.check(tree, longer, 0)

    def test_negative_numbers_do_not_count_from_the_end(self):
        for tree in thrown_trees(range(10), (20,)):
            for way, arm in exchanges_of(tree):
                arms = len(plain_arms(rule_at(tree, way)))
                self.check(tree, way, arm - arms)
                for at, number in enumerate(way):
                    arms = len(plain_arms(rule_at(tree, way[:at])))
                    self.check(tree, way[:at] + [number - arms] + way[at + 1:], arm)


class ExchangesOf(unittest.TestCase):
    def check(self, tree, told):
        self.assertIs(checked_tree(tree), True)
        self.assertEqual(unchanged(self, exchanges_of, tree), told)

    def test_none(self):
        self.check(([A, NOT_A], ("link", 0, 1)), [])
        self.check(([None, NOT_A, None, A], ("link", 1, 3)), [])
        self.check(([A, NOT_A, ("either", 0, 1)], ("either", 2, ("link", 0, 1))), [])
        self.check(chain_of_cuts(2), [])
        self.check(mirror_tree(("both", A, B)), [])

    def test_rising(self):
        self.check(chain_of_cuts(3), [([], 1)])
        self.check(chain_of_cuts(5), [([], 1), ([1], 1), ([1, 1], 1)])
        self.check(tower(2, [0, 1]), [([], 0), ([0], 0), ([0, 0], 0)])

    def test_both_arms_of_one_rule_and_ways_that_begin_others(self):
        left = chain_of_cuts(4)
        grown = Growing()
        grown.knots = left[0]
        first = grown.link()
        second = grown.link()
        third = grown.link()
        middle = ("cut", first[2], second[1], first, second)
        right = ("cut", second[2], third[1], middle, third)
        ends = plain_ends(left[0], left[1])
        plain = [place for place in ends if left[0][place] == A]
        tree = (left[0], ("cut", plain[0], third[2], left[1], right))
        self.check(tree, [([], 0), ([], 1), ([0], 1), ([0, 1], 1), ([1], 0)])

    def test_word_for_word(self):
        for tree in some_trees() + [shifted(tree) for tree in thrown_trees(range(10), (16,))]:
            told = unchanged(self, exchanges_of, tree)
            self.assertEqual(told, plain_exchanges(tree))
            self.assertEqual(told, sorted(told))
            for pair in told:
                self.assertEqual((type(pair), len(pair), type(pair[0]), type(pair[1])), (tuple, 2, list, int))

    def test_great_trees(self):
        most = 0
        trees = thrown_trees(range(8), (90, 120)) + [chain_of_cuts(60), tower(16, range(16))]
        trees += [mirror_tree(word) for word in (wide(30), deep_left(30), deep_right(30, "either"))]
        trees += [cut_mirrors(wide(15))]
        for tree in trees:
            self.check(tree, plain_exchanges(tree))
            most = max(most, len(tree[0]))
        self.assertEqual(most, 120)

    def test_the_ways_are_new_lists(self):
        tree = two_sided()
        told = exchanges_of(tree)
        self.assertEqual([way for way, _ in told[:2]], [[], []])
        for way, _ in told:
            way.append(7)
        self.assertEqual(told[0][0], [7])
        self.assertEqual(exchanges_of(tree), plain_exchanges(tree))


if __name__ == "__main__":
    unittest.main()
