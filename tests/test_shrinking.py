"""Points 44 and 45, of point 46 `first_bad`, and point 1 for oncewise.shrinking."""

import itertools
import unittest

from oncewise.shrinking import first_bad, right_web, shrunk
from oncewise.switching import fault_by, first_bad_tried
from oncewise.trees import web_of
from oncewise.webs import checked_web, eithers_of
from samples import (
    A, B, C, Dice, NOT_A, NOT_B, NOT_C, all_choices, apart, bad_at, bad_right_web, beside, chain_of_cuts,
    closed_wire, cut_leaves, cut_mirrors, cut_pairs, cut_ring, deep_left, deep_right, many_webs, mirror_tree,
    one_either, piece_of, plain_edges, ring_and_parts, ring_web, shifted_web, sound_trees, thrown_trees,
    thrown_webs, two_cuts, two_swapped, two_wires, unchanged, waiting_web, wide, wire,
)


def caught_either():
    """An either knot that lies in one piece with its parts without being folded."""
    knots = [A, NOT_A, B, NOT_B, ("both", 1, 2), ("either", 0, 3), ("both", 5, 4)]
    return (knots, [(0, 1), (2, 3)], [])


def parted_folds():
    """Two right webs side by side, each with an either knot."""
    knots = [A, NOT_A, ("either", 0, 1), B, NOT_B, ("either", 4, 3)]
    return (knots, [(0, 1), (3, 4)], [])


def own_webs():
    return [waiting_web(), caught_either(), parted_folds(), cut_ring()]


def some_webs():
    webs = own_webs()
    return many_webs() + webs + [shifted_web(web) for web in webs] + thrown_webs(range(12), (6, 12, 20, 30))


def few_eithers(webs, most=7):
    return [web for web in webs if len(eithers_of(web)) <= most]


def places_of(web):
    return [place for place, knot in enumerate(web[0]) if knot is not None]


def knots_of(web, kind):
    return [(place,) + knot[1:] for place, knot in enumerate(web[0]) if knot is not None and knot[0] == kind]


def all_steps(web):
    """Each step that point 44 names for the web, whether it can be done or not."""
    pairs = web[1] + web[2]
    for place, left, right in knots_of(web, "both"):
        pairs = pairs + [(place, left), (place, right)]
    return [("join", p, q) for p, q in pairs] + [("fold", place) for place, _, _ in knots_of(web, "either")]


class Walk:
    """Point 44, word for word: pieces as a mark for each place."""

    def __init__(self, web):
        self.web = web
        self.marks = {place: place for place in places_of(web)}

    def can_do(self, step):
        if step[0] == "join":
            return self.marks[step[1]] != self.marks[step[2]]
        _, left, right = self.web[0][step[1]]
        return self.marks[left] == self.marks[right] != self.marks[step[1]]

    def doable(self):
        return [step for step in all_steps(self.web) if self.can_do(step)]

    def do(self, step):
        other = step[2] if step[0] == "join" else self.web[0][step[1]][1]
        old, new = self.marks[step[1]], self.marks[other]
        for place, mark in self.marks.items():
            if mark == old:
                self.marks[place] = new

    def pieces(self):
        return len(set(self.marks.values()))


def walked(case, web):
    walk = Walk(web)
    steps = unchanged(case, shrunk, web)
    case.assertIs(type(steps), list)
    for step in steps:
        case.assertIs(type(step), tuple)
        case.assertIn(step, walk.doable())
        walk.do(step)
    case.assertEqual(walk.doable(), [])
    return walk


def steps_in_all(web):
    return len(web[1]) + len(web[2]) + len(knots_of(web, "either")) + 2 * len(knots_of(web, "both"))


def is_at_fault(web, choices):
    """One piece without a ring has one edge less than places, and no place by itself."""
    edges = plain_edges(web, choices)
    places = places_of(web)
    return len(edges) != len(places) - 1 or piece_of(edges, places[0]) != set(places)


def first_at_fault(web):
    for choices in all_choices(web):
        if is_at_fault(web, choices):
            return choices
    return None


class ShrunkSteps(unittest.TestCase):
    def test_a_link(self):
        self.assertEqual(shrunk(wire()), [("join", 0, 1)])
        self.assertEqual(shrunk(([None, NOT_A, None, A, None], [(1, 3)], [])), [("join", 1, 3)])

    def test_a_link_and_a_fold(self):
        self.assertEqual(shrunk(one_either()), [("join", 0, 1), ("fold", 2)])

    def test_links_and_cuts_as_they_stand(self):
        self.assertEqual(sorted(shrunk(cut_leaves())), [("join", 0, 1), ("join", 1, 2), ("join", 2, 3)])
        about = ([A, NOT_A, A, NOT_A], [(0, 1), (2, 3)], [(2, 1)])
        self.assertEqual(sorted(shrunk(about)), [("join", 0, 1), ("join", 2, 1), ("join", 2, 3)])
        self.assertIn(("join", 6, 2), shrunk(cut_pairs()))
        self.assertNotIn(("join", 2, 6), shrunk(cut_pairs()))

    def test_both_knots_with_each_part(self):
        web = ([A, NOT_A, B, NOT_B, ("both", 3, 0)], [(0, 1), (2, 3)], [])
        steps = [("join", 0, 1), ("join", 2, 3), ("join", 4, 0), ("join", 4, 3)]
        self.assertEqual(sorted(shrunk(web)), steps)

    def test_all_steps_of_a_right_web(self):
        for tree in sound_trees() + thrown_trees(range(6), (20, 60, 120)):
            web = web_of(tree)
            self.assertEqual(sorted(shrunk(web)), sorted(all_steps(web)))

    def test_a_ring_leaves_a_join_out(self):
        self.assertEqual(len(shrunk(ring_web())), 2)
        self.assertEqual(len(shrunk(cut_ring())), 3)
        self.assertEqual(shrunk(closed_wire()), [("join", 0, 1)])

    def test_a_fold_that_waits_for_a_higher_one(self):
        steps = shrunk(waiting_web())
        self.assertLess(steps.index(("fold", 8)), steps.index(("fold", 6)))
        self.assertEqual(len(steps), 9)

    def test_no_fold_where_the_parts_lie_in_two_pieces(self):
        self.assertEqual(sorted(shrunk(apart())), [("join", 0, 3), ("join", 1, 4)])
        self.assertNotIn(("fold", 4), shrunk(bad_right_web()))

    def test_no_fold_where_the_knot_lies_with_its_parts(self):
        self.assertNotIn(("fold", 5), shrunk(caught_either()))
        self.assertEqual(len(shrunk(caught_either())), 6)

    def test_each_step_can_be_done_and_none_behind_the_last(self):
        left = {}
        for web in some_webs():
            self.assertIs(checked_web(web), True)
            walk = walked(self, web)
            left[walk.pieces()] = left.get(walk.pieces(), 0) + 1
        self.assertGreater(left[1], 50)
        self.assertGreater(left[2], 20)
        self.assertGreater(len(left), 3)

    def test_great_webs(self):
        for web in thrown_webs(range(4), (80, 120)) + [bad_at([1] * 17), web_of(chain_of_cuts(60))]:
            walked(self, web)

    def test_a_new_list_each_time(self):
        web = cut_pairs()
        steps = shrunk(web)
        kept = list(steps)
        steps.clear()
        self.assertEqual(shrunk(web), kept)


class RightWebs(unittest.TestCase):
    def check(self, web, is_right):
        self.assertIs(unchanged(self, right_web, web), is_right)

    def test_webs_of_trees(self):
        for tree in sound_trees() + thrown_trees(range(20), (8, 16, 40, 90, 120)):
            self.check(web_of(tree), True)

    def test_great_webs_of_trees(self):
        for word in (deep_left(30), deep_right(30, "either"), wide(30)):
            self.check(web_of(mirror_tree(word)), True)
        self.check(web_of(cut_mirrors(wide(15))), True)
        self.check(web_of(chain_of_cuts(60)), True)

    def test_cuts_and_gone_places(self):
        for web in (cut_leaves(), cut_pairs(), two_cuts(), waiting_web()):
            self.check(web, True)
            self.check(shifted_web(web), True)
        for web in (closed_wire(), cut_ring(), ring_web(), two_wires(), apart()):
            self.check(web, False)
            self.check(shifted_web(web), False)

    def test_one_piece_but_not_all_steps(self):
        for web in (ring_web(), closed_wire(), cut_ring(), caught_either()):
            self.assertEqual(walked(self, web).pieces(), 1)
            self.assertLess(len(shrunk(web)), steps_in_all(web))
            self.check(web, False)

    def test_all_steps_but_not_one_piece(self):
        for web in (two_wires(), parted_folds(), shifted_web(parted_folds())):
            self.assertGreater(walked(self, web).pieces(), 1)
            self.assertEqual(len(shrunk(web)), steps_in_all(web))
            self.check(web, False)

    def test_neither(self):
        for web in (apart(), bad_right_web(), ring_and_parts()):
            self.check(web, False)

    def test_just_where_no_switching_is_at_fault(self):
        told = {True: 0, False: 0}
        for web in few_eithers(some_webs()):
            is_right = first_at_fault(web) is None
            self.check(web, is_right)
            told[is_right] += 1
        self.assertTrue(all(count > 50 for count in told.values()), told)

    def test_as_point_45_tells_whatever_steps_are_done(self):
        dice = Dice(45)
        for web in few_eithers(some_webs()) + thrown_webs(range(2), (40, 60)):
            walk = Walk(web)
            count = 0
            while walk.doable():
                walk.do(dice.one_of(walk.doable()))
                count += 1
            self.check(web, walk.pieces() == 1 and count == steps_in_all(web))


def with_idle(web, end, ahead, behind):
    """The same web with either knots besides, which hang by an end and choose nothing."""
    idle = ([C, NOT_C, ("either", 0, 1)], [(0, 1)], [])
    whole = ([], [], [])
    hooks = []
    for one in [idle] * ahead + [web] + [idle] * behind:
        hooks.append(len(whole[0]) + (end if one is web else 2))
        whole = beside(whole, one)
    while len(hooks) > 1:
        whole[0].append(("both", hooks.pop(0), hooks.pop(0)))
        hooks.append(len(whole[0]) - 1)
    return whole


def joined(first, second):
    """Two webs made one by a both knot of the last place of each."""
    knots, links, cuts = beside(first, second)
    return (knots + [("both", len(first[0]) - 1, len(knots) - 1)], links, cuts)


class FirstBad(unittest.TestCase):
    def check(self, web, choices):
        self.assertIs(checked_web(web), True)
        self.assertEqual(unchanged(self, first_bad, web), choices)

    def test_none(self):
        for web in (wire(), one_either(), cut_leaves(), two_cuts(), cut_pairs(), waiting_web()):
            self.assertIsNone(unchanged(self, first_bad, web))
        for tree in sound_trees() + thrown_trees(range(8), (20, 60, 120)):
            self.assertIsNone(first_bad(web_of(tree)))

    def test_no_choices(self):
        for web in (ring_web(), two_wires(), closed_wire(), cut_ring(), ring_and_parts()):
            self.check(web, [])

    def test_the_first_one(self):
        self.check(apart(), [0])
        self.check(bad_right_web(), [1])
        self.check(caught_either(), [0])
        self.check(parted_folds(), [0, 0])

    def test_each_switching_of_some_counts_as_the_only_one(self):
        for count in (1, 2, 3, 4, 5):
            for choices in itertools.product((0, 1), repeat=count):
                self.check(bad_at(list(choices)), list(choices))
                self.check(shifted_web(bad_at(list(choices))), list(choices))

    def test_the_same_as_by_trying(self):
        counts = {}
        for web in few_eithers(some_webs(), 10):
            choices = first_at_fault(web) if len(eithers_of(web)) < 7 else first_bad_tried(web)
            self.check(web, choices)
            self.assertEqual(first_bad_tried(web), choices)
            ones = None if choices is None else sum(choices)
            counts[ones] = counts.get(ones, 0) + 1
        self.assertGreater(counts[None], 50)
        self.assertGreater(counts[0], 50)
        self.assertGreater(counts[1], 10)

    def test_ten_and_eleven_either_knots(self):
        for count in (10, 11):
            for choices in ([1] * count, [0] * count, ([1, 0] * count)[:count], [0] * (count - 1) + [1]):
                self.check(bad_at(choices), choices)
        self.check(web_of(mirror_tree(deep_left(12))), None)


class FirstBadOfManyEithers(unittest.TestCase):
    def check(self, web, choices):
        self.assertIs(checked_web(web), True)
        self.assertLessEqual(len(web[0]), 120)
        self.assertEqual(first_bad(web), choices)

    def test_one_switching_of_seventeen_choices(self):
        for choices in ([1] * 17, [0] * 17, [1, 0] * 8 + [1], [0] * 16 + [1], [1] + [0] * 16):
            self.check(bad_at(choices), choices)

    def test_idle_choices_ahead_and_behind(self):
        for ahead, behind in ((14, 0), (0, 14), (7, 7)):
            for choices in ([1] * 9, [0, 1] * 4 + [0]):
                web = with_idle(bad_at(choices), 61, ahead, behind)
                self.check(web, [0] * ahead + choices + [0] * behind)
        for ahead, behind in ((26, 0), (0, 26), (13, 13)):
            self.check(with_idle(bad_at([1, 1]), 12, ahead, behind), [0] * ahead + [1, 1] + [0] * behind)

    def test_two_switchings_either_of_which_is_enough(self):
        for count in (3, 8):
            none, ones = [0] * count, [1] * count
            mixed = ([1, 0, 0] * count)[:count]
            self.check(joined(bad_at(ones), bad_at(mixed)), none + mixed)
            self.check(joined(bad_at(mixed), bad_at(ones)), none + ones)
            self.check(joined(bad_at(none), bad_at(ones)), none + none)
            self.check(joined(bad_at(ones), bad_at(none)), none + none)

    def test_only_the_lefts_where_every_switching_is_at_fault(self):
        knots = [A, NOT_A] * 30
        ends = list(range(60))
        while len(ends) > 1:
            knots.append(("either", ends.pop(0), ends.pop(0)))
            ends.append(len(knots) - 1)
        self.check((knots, [(2 * number, 2 * number + 1) for number in range(30)], []), [0] * 59)

    def test_none_of_great_right_webs(self):
        for word in (deep_left(30), deep_right(30, "either"), wide(30)):
            self.check(web_of(mirror_tree(word)), None)

    def test_great_wrong_webs(self):
        """It is at fault, and no switching that was looked up ahead of it is."""
        dice = Dice(46)
        wrong = 0
        webs = [two_swapped(web_of(mirror_tree(wide(30))), seed) for seed in range(20)]
        for web in webs + thrown_webs(range(10), (80, 120)):
            choices = first_bad(web)
            self.assertEqual(choices is None, right_web(web))
            if choices is None:
                continue
            self.assertIsNotNone(fault_by(web, choices))
            for number, choice in enumerate(choices):
                if choice == 1:
                    wrong += 1
                    for _ in range(10):
                        rest = [dice.below(2) for _ in choices[number + 1:]]
                        self.assertIsNone(fault_by(web, choices[:number] + [0] + rest))
        self.assertGreater(wrong, 10)

    def test_a_new_list_each_time(self):
        web = bad_at([1, 0])
        first_bad(web).clear()
        self.assertEqual(first_bad(web), [1, 0])
        first_bad(ring_web()).append(1)
        self.assertEqual(first_bad(ring_web()), [])


if __name__ == "__main__":
    unittest.main()
