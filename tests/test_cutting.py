"""Points 61 to 63, and point 1 for oncewise.cutting."""

import unittest

from oncewise.cutting import cut_free, cut_step, steps_due
from oncewise.errors import NoCut
from oncewise.shrinking import right_web
from oncewise.trees import web_of
from oncewise.webs import checked_web, ends_of
from samples import (
    A, B, Dice, NOT_A, NOT_B, beside, chain_of_cuts, closed_wire, cut_leaves, cut_mirrors, cut_pairs, cut_ring,
    deep_left, deep_right, many_webs, mixed_tree, one_either, refused, shifted_web, sound_trees, thrown_trees,
    thrown_webs, two_cuts, unchanged, wide, wire,
)

FAR = 10 ** 30
VERY_FAR = 10 ** 5000


def knot_cut(order, parts=(0, 1), sides=(3, 4)):
    """A both knot and an either knot in a cut, in that order of their places."""
    knots = [A, A, ("both",) + parts, NOT_A, NOT_A, ("either",) + sides, A, A, NOT_A, NOT_A]
    links = [(0, 8), (1, 9), (3, 6), (4, 7)]
    return (knots, links, [order])


def closed_behind(count):
    """Links in a ring of so many cuts: refused at the last cut, whichever that is."""
    knots = [A, NOT_A] * count
    links = [(2 * number, 2 * number + 1) for number in range(count)]
    cuts = [(2 * number + 1, (2 * number + 2) % (2 * count)) for number in range(count)]
    return (knots, links, cuts)


def closed_within():
    """A cut of a both and an either knot, one pair of whose parts is linked with one another."""
    knots = [A, B, ("both", 0, 1), NOT_A, NOT_B, ("either", 3, 4), B, NOT_B]
    return (knots, [(0, 3), (1, 7), (4, 6)], [(5, 2)])


def deep_cut():
    """Cuts that come only of cuts."""
    return web_of(cut_mirrors(("either", ("both", A, NOT_B), ("either", B, ("both", A, A)))))


def own_webs():
    webs = [cut_ring(), closed_behind(3), closed_behind(4), closed_within(), deep_cut(), web_of(mixed_tree())]
    webs += [knot_cut((2, 5)), knot_cut((5, 2)), knot_cut((2, 5), (1, 0)), knot_cut((5, 2), (0, 1), (4, 3))]
    return webs + [beside(cut_pairs(), web) for web in webs]


def some_webs():
    webs = own_webs()
    return many_webs() + webs + [shifted_web(web) for web in webs] + thrown_webs(range(40), (8, 16, 24, 36))


def plain_step(web, k):
    """Point 61, word for word; None where it is refused."""
    knots, links, cuts = web
    if k not in range(len(cuts)):
        return None
    p, q = cuts[k]
    left = [cut for cut in cuts if cut != (p, q)]
    gone = [None if place in (p, q) else knot for place, knot in enumerate(knots)]
    if knots[p][0] in ("plain", "turned"):
        [x] = [place for link in links if p in link for place in link if place != p]
        [y] = [place for link in links if q in link for place in link if place != q]
        if x == q:
            return None
        others = [link for link in links if not {p, q} & set(link)]
        return (gone, sorted(others + [tuple(sorted([x, y]))]), left)
    left.append((knots[p][1], knots[q][1]))
    left.append((knots[p][2], knots[q][2]))
    return (gone, links, sorted(left))


class CutStep(unittest.TestCase):
    def check(self, web, k, told):
        self.assertIs(checked_web(web), True)
        self.assertEqual(unchanged(self, cut_step, web, k), told)
        self.assertIs(checked_web(told), True)

    def test_leaves(self):
        self.check(cut_leaves(), 0, ([A, None, None, NOT_A], [(0, 3)], []))
        about = (cut_leaves()[0], cut_leaves()[1], [(2, 1)])
        self.check(about, 0, ([A, None, None, NOT_A], [(0, 3)], []))

    def test_leaves_whose_links_lead_to_any_side(self):
        knots = [A, NOT_A, A, NOT_A]
        self.check((knots, [(0, 1), (2, 3)], [(0, 3)]), 0, ([None, NOT_A, A, None], [(1, 2)], []))
        self.check((knots, [(0, 1), (2, 3)], [(3, 0)]), 0, ([None, NOT_A, A, None], [(1, 2)], []))
        self.check((knots, [(0, 3), (1, 2)], [(0, 1)]), 0, ([None, None, A, NOT_A], [(2, 3)], []))
        self.check((knots, [(0, 3), (1, 2)], [(3, 2)]), 0, ([A, NOT_A, None, None], [(0, 1)], []))

    def test_links_rise_again(self):
        knots = [NOT_A, B, NOT_B, A, NOT_A, A]
        web = (knots, [(0, 3), (1, 2), (4, 5)], [(3, 4)])
        self.check(web, 0, ([NOT_A, B, NOT_B, None, None, A], [(0, 5), (1, 2)], []))
        knots = [A, NOT_A, B, NOT_B, NOT_A, A]
        web = (knots, [(0, 4), (1, 5), (2, 3)], [(0, 1)])
        self.check(web, 0, ([None, None, B, NOT_B, NOT_A, A], [(2, 3), (4, 5)], []))

    def test_a_both_and_an_either_knot(self):
        for order, cuts in (((2, 5), [(0, 3), (1, 4)]), ((5, 2), [(3, 0), (4, 1)])):
            web = knot_cut(order)
            knots = [A, A, None, NOT_A, NOT_A, None, A, A, NOT_A, NOT_A]
            self.check(web, 0, (knots, web[1], cuts))

    def test_parts_by_left_and_right_not_by_places(self):
        for order, parts, sides, cuts in (
            ((2, 5), (1, 0), (3, 4), [(0, 4), (1, 3)]),
            ((2, 5), (0, 1), (4, 3), [(0, 4), (1, 3)]),
            ((2, 5), (1, 0), (4, 3), [(0, 3), (1, 4)]),
            ((5, 2), (1, 0), (3, 4), [(3, 1), (4, 0)]),
            ((5, 2), (0, 1), (4, 3), [(3, 1), (4, 0)]),
        ):
            web = knot_cut(order, parts, sides)
            self.assertEqual(cut_step(web, 0)[2], cuts)
            self.check(web, 0, plain_step(web, 0))

    def test_the_other_cuts_stay_and_all_rise(self):
        self.check(two_cuts(), 0, ([A, None, None, NOT_A, A, NOT_A], [(0, 3), (4, 5)], [(3, 4)]))
        self.check(two_cuts(), 1, ([A, NOT_A, A, None, None, NOT_A], [(0, 1), (2, 5)], [(1, 2)]))
        web = beside(cut_leaves(), beside(knot_cut((5, 2)), cut_leaves()))
        self.assertEqual(web[2], [(1, 2), (9, 6), (15, 16)])
        self.assertEqual(cut_step(web, 1)[2], [(1, 2), (7, 4), (8, 5), (15, 16)])
        around = ([A, NOT_A, A] + [NOT_A, A, NOT_A], [(0, 1), (2, 3), (4, 5)], [(0, 3), (2, 5)])
        self.assertEqual(cut_step(around, 1)[2], [(0, 3)])

    def test_new_cuts_on_both_sides_of_another_one(self):
        knots = [A, A, NOT_A, NOT_A, A, ("both", 0, 4), NOT_A, NOT_A, ("either", 6, 7), NOT_A, NOT_A, A, A, A]
        links = [(0, 9), (1, 2), (3, 11), (4, 10), (6, 12), (7, 13)]
        gone = knots[:5] + [None, NOT_A, NOT_A, None] + knots[9:]
        self.check((knots, links, [(1, 3), (5, 8)]), 1, (gone, links, [(0, 6), (1, 3), (4, 7)]))

    def test_a_word_of_some_depth(self):
        web = deep_cut()
        p, q = web[2][0]
        told = cut_step(web, 0)
        self.check(web, 0, plain_step(web, 0))
        self.assertEqual((told[0][p], told[0][q]), (None, None))
        self.assertEqual(len(told[2]), 2)

    def test_word_for_word(self):
        done = {True: 0, False: 0}
        for web in some_webs():
            for k in range(len(web[2])):
                told = plain_step(web, k)
                done[told is not None] += 1
                if told is None:
                    refused(self, NoCut, cut_step, web, k)
                else:
                    self.check(web, k, told)
                    self.assertEqual(ends_of(told), ends_of(web))
        self.assertTrue(all(count > 50 for count in done.values()), done)

    def test_told_lists_are_new_ones(self):
        for web in own_webs():
            told = plain_step(web, 0)
            if told is not None:
                first = cut_step(web, 0)
                for own in first:
                    self.assertTrue(all(own is not handed for handed in web))
                    own.clear()
                self.assertEqual(cut_step(web, 0), told)


class NoCutStep(unittest.TestCase):
    def test_numbers_of_no_cut(self):
        for web in (wire(), one_either(), cut_leaves(), cut_pairs(), two_cuts(), deep_cut(), closed_wire()):
            count = len(web[2])
            for k in (-1, -2, -count, -count - 1, count, count + 1, 120, FAR, -FAR, VERY_FAR, -VERY_FAR):
                if k not in range(count):
                    refused(self, NoCut, cut_step, web, k)

    def test_two_places_that_are_linked_with_one_another(self):
        refused(self, NoCut, cut_step, closed_wire(), 0)
        refused(self, NoCut, cut_step, ([A, NOT_A], [(0, 1)], [(1, 0)]), 0)
        refused(self, NoCut, cut_step, ([None, NOT_B, B, A, NOT_A], [(1, 2), (3, 4)], [(2, 1)]), 0)

    def test_only_at_that_cut(self):
        web = beside(closed_wire(), cut_leaves())
        refused(self, NoCut, cut_step, web, 0)
        self.assertEqual(cut_step(web, 1), ([A, NOT_A, A, None, None, NOT_A], [(0, 1), (2, 5)], [(0, 1)]))
        refused(self, NoCut, cut_step, cut_step(web, 1), 0)

    def test_linked_behind_a_step(self):
        for k in (0, 1):
            refused(self, NoCut, cut_step, cut_step(cut_ring(), k), 0)


class StepsDue(unittest.TestCase):
    def test_no_cut(self):
        for web in (wire(), one_either(), ([A, NOT_A, B, NOT_B], [(0, 1), (2, 3)], [])):
            self.assertEqual(unchanged(self, steps_due, web), 0)

    def test_some(self):
        self.assertEqual(steps_due(cut_leaves()), 1)
        self.assertEqual(steps_due(two_cuts()), 2)
        self.assertEqual(steps_due(cut_pairs()), 3)
        self.assertEqual(steps_due(deep_cut()), 9)
        self.assertEqual(steps_due(beside(cut_pairs(), two_cuts())), 5)
        self.assertEqual(steps_due(closed_wire()), 1)
        self.assertEqual(steps_due(closed_within()), 3)

    def test_great_webs(self):
        self.assertEqual(steps_due(web_of(chain_of_cuts(60))), 59)
        self.assertEqual(steps_due(web_of(cut_mirrors(wide(15)))), 29)
        self.assertEqual(steps_due(web_of(cut_mirrors(deep_left(15)))), 29)

    def test_less_by_one_behind_each_step(self):
        for web in some_webs():
            due = unchanged(self, steps_due, web)
            for k in range(len(web[2])):
                if plain_step(web, k) is not None:
                    self.assertEqual(steps_due(cut_step(web, k)), due - 1)


def outcome(web, choose):
    """The web without cuts and the number of steps; None for it where a step is refused."""
    count = 0
    while web[2]:
        try:
            web = cut_step(web, choose(len(web[2])))
        except NoCut:
            return (None, count)
        count += 1
    return (web, count)


def all_outcomes(web, known):
    """Where all orders of cuts lead, None standing for a refusal."""
    key = (tuple(web[0]), tuple(web[1]), tuple(web[2]))
    if key not in known:
        if not web[2]:
            known[key] = [web]
        else:
            found = []
            for k in range(len(web[2])):
                step = plain_step(web, k)
                found += [None] if step is None else all_outcomes(step, known)
            known[key] = [one for at, one in enumerate(found) if one not in found[:at]]
    return known[key]


def orders():
    dice = Dice(63)
    return [lambda count: 0, lambda count: count - 1, lambda count: count // 2, dice.below, dice.below]


class CutFree(unittest.TestCase):
    def check(self, web, told):
        self.assertIs(checked_web(web), True)
        if told is None:
            refused(self, NoCut, cut_free, web)
        else:
            self.assertEqual(unchanged(self, cut_free, web), told)
            self.assertIs(checked_web(told), True)
            self.assertEqual(told[2], [])
            self.assertEqual(ends_of(told), ends_of(web))

    def test_no_cut(self):
        for web in (wire(), one_either(), ([None, A, NOT_A, B, NOT_B], [(1, 2), (3, 4)], [])):
            self.check(web, web)

    def test_some(self):
        self.check(cut_leaves(), ([A, None, None, NOT_A], [(0, 3)], []))
        self.check(two_cuts(), ([A, None, None, None, None, NOT_A], [(0, 5)], []))
        knots = [None] * 7 + [NOT_A, NOT_B, ("either", 7, 8), A, B, ("both", 10, 11)]
        self.check(cut_pairs(), (knots, [(7, 10), (8, 11)], []))
        knots = [None] * 6 + [A, A, NOT_A, NOT_A]
        self.check(knot_cut((2, 5)), (knots, [(6, 8), (7, 9)], []))
        self.check(knot_cut((5, 2), (1, 0)), (knots, [(6, 9), (7, 8)], []))

    def test_refused_at_once(self):
        self.check(closed_wire(), None)
        self.check(beside(cut_leaves(), closed_wire()), None)
        self.check(beside(closed_wire(), cut_leaves()), None)

    def test_refused_on_the_way(self):
        for web in (cut_ring(), closed_within(), closed_behind(3), closed_behind(60)):
            self.check(web, None)
            self.check(shifted_web(web), None)
            self.check(beside(cut_pairs(), web), None)

    def test_all_orders_lead_to_the_same(self):
        ends = {True: 0, False: 0}
        known = {}
        for web in some_webs():
            if len(web[2]) <= 4 and steps_due(web) <= 7:
                found = all_outcomes(web, known)
                self.assertEqual(len(found), 1)
                self.check(web, found[0])
                ends[found[0] is None] += len(web[2])
        self.assertTrue(all(count > 100 for count in ends.values()), ends)

    def test_several_orders_of_great_webs(self):
        ends = {True: 0, False: 0}
        for web in some_webs() + thrown_webs(range(8), (60, 90, 120)):
            outcomes = [outcome(web, choose) for choose in orders()]
            webs = [one for one, _ in outcomes]
            self.assertTrue(all(one == webs[0] for one in webs))
            if webs[0] is not None:
                self.assertEqual([count for _, count in outcomes], [steps_due(web)] * len(outcomes))
            self.check(web, webs[0])
            ends[webs[0] is None] += 1
        self.assertTrue(all(count > 30 for count in ends.values()), ends)

    def test_right_webs_stay_right_and_keep_their_ends(self):
        words = [wide(15), deep_left(15), deep_right(15, "either")]
        trees = sound_trees() + [cut_mirrors(word) for word in words] + [chain_of_cuts(60)]
        for tree in trees + thrown_trees(range(12), (20, 60, 120)):
            for choose in orders()[:2] + orders()[3:4]:
                web = web_of(tree)
                ends = ends_of(web)
                while web[2]:
                    web = cut_step(web, choose(len(web[2])))
                    self.assertIs(right_web(web), True)
                    self.assertEqual(ends_of(web), ends)
                self.check(web_of(tree), web)

    def test_told_lists_are_new_ones(self):
        for web in (wire(), one_either(), cut_leaves(), cut_pairs()):
            kept = cut_free(web)
            told = cut_free(web)
            self.assertIsNot(told[1], told[2])
            for own in told:
                self.assertTrue(all(own is not handed for handed in web))
                own.append(None)
            self.assertEqual(cut_free(web), kept)


if __name__ == "__main__":
    unittest.main()
