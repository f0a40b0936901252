"""Points 41 to 43, of point 46 `first_bad_tried`, and point 1 for oncewise.switching."""

import itertools
import unittest

from oncewise.errors import BadChoices, TooMany
from oncewise.switching import choices_at, edges_by, fault_by, first_bad_tried
from oncewise.trees import web_of
from oncewise.webs import checked_web, eithers_of
from samples import (
    A, B, C, NOT_A, NOT_B, NOT_C, all_choices, apart, bad_at, bad_right_web, chain_of_cuts, closed_wire,
    cut_leaves, cut_mirrors, cut_pairs, deep_left, many_webs, mirror_tree, one_either, piece_of, plain_edges,
    refused, ring_and_parts, ring_web, shifted_web, sound_trees, two_cuts, two_wires, unchanged, wide, wire,
)

FAR = 10 ** 30
VERY_FAR = 10 ** 5000


def has_ring(edges):
    """Whether some edge hangs together by others."""
    return any(q in piece_of(edges[:at] + edges[at + 1:], p) for at, (p, q) in enumerate(edges))


def check_fault(case, web, choices):
    """The answer of fault_by must be one that point 43 allows."""
    fault = unchanged(case, fault_by, web, choices)
    edges = plain_edges(web, choices)
    places = [place for place, knot in enumerate(web[0]) if knot is not None]
    first = sorted(piece_of(edges, places[0]))
    if has_ring(edges):
        check_ring(case, edges, fault)
    elif first != places:
        case.assertEqual(fault, ("parts", first))
    else:
        case.assertIsNone(fault)
    return fault


def check_ring(case, edges, fault):
    case.assertIs(type(fault), tuple)
    kind, numbers = fault
    case.assertEqual(kind, "ring")
    case.assertIs(type(numbers), list)
    case.assertEqual(numbers, sorted(set(numbers)))
    case.assertTrue(all(0 <= number < len(edges) for number in numbers))
    case.assertGreaterEqual(len(numbers), 2)
    ring = [edges[number] for number in numbers]
    met = [place for edge in ring for place in edge]
    case.assertTrue(all(met.count(place) == 2 for place in met))
    case.assertEqual(piece_of(ring, met[0]), set(met))


class ChoicesAt(unittest.TestCase):
    def test_all_of_some_counts_in_order(self):
        self.assertEqual(choices_at(3, 1), [0, 0, 1])
        for count in range(8):
            told = [choices_at(count, number) for number in range(2 ** count)]
            self.assertEqual(told, [list(choices) for choices in itertools.product((0, 1), repeat=count)])
            self.assertEqual(told, sorted(told))

    def test_first_and_last(self):
        self.assertEqual(choices_at(0, 0), [])
        for count in (1, 2, 3, 10, 11, 31, 32, 33, 59, 60):
            with self.subTest(count=count):
                self.assertEqual(choices_at(count, 0), [0] * count)
                self.assertEqual(choices_at(count, 2 ** count - 1), [1] * count)
                self.assertEqual(choices_at(count, 1), [0] * (count - 1) + [1])
                self.assertEqual(choices_at(count, 2 ** (count - 1)), [1] + [0] * (count - 1))

    def test_numbers_between(self):
        self.assertEqual(choices_at(4, 6), [0, 1, 1, 0])
        self.assertEqual(choices_at(60, 2 ** 59 + 5), [1] + [0] * 56 + [1, 0, 1])

    def test_other_numbers_are_refused(self):
        for count in (0, 1, 2, 3, 10, 31, 32, 59, 60):
            for number in (-1, -2, -(2 ** count), 2 ** count, 2 ** count + 1, FAR, -FAR, VERY_FAR, -VERY_FAR):
                if number not in range(2 ** count):
                    with self.subTest(count=count):
                        refused(self, BadChoices, choices_at, count, number)

    def test_a_new_list_each_time(self):
        first = choices_at(2, 1)
        first.append(1)
        self.assertEqual(choices_at(2, 1), [0, 1])
        choices_at(0, 0).append(1)
        self.assertEqual(choices_at(0, 0), [])


class EdgesBy(unittest.TestCase):
    def test_links_alone(self):
        self.assertEqual(edges_by(wire(), []), [(0, 1)])
        self.assertEqual(edges_by(two_wires(), []), [(0, 1), (2, 3)])

    def test_links_then_cuts_as_they_stand(self):
        self.assertEqual(edges_by(cut_leaves(), []), [(0, 1), (2, 3), (1, 2)])
        web = (two_cuts()[0], two_cuts()[1], [(1, 4), (3, 2)])
        self.assertEqual(edges_by(web, []), [(0, 1), (2, 3), (4, 5), (1, 4), (3, 2)])

    def test_left_and_right_part_of_a_both(self):
        self.assertEqual(edges_by(ring_web(), []), [(0, 1), (2, 0), (2, 1)])
        self.assertEqual(edges_by(([A, NOT_A, ("both", 1, 0)], [(0, 1)], []), []), [(0, 1), (2, 1), (2, 0)])

    def test_the_kept_part_of_an_either(self):
        self.assertEqual(edges_by(one_either(), [0]), [(0, 1), (2, 0)])
        self.assertEqual(edges_by(one_either(), [1]), [(0, 1), (2, 1)])
        swapped = ([A, NOT_A, ("either", 1, 0)], [(0, 1)], [])
        self.assertEqual(edges_by(swapped, [0]), [(0, 1), (2, 1)])
        self.assertEqual(edges_by(swapped, [1]), [(0, 1), (2, 0)])

    def test_both_and_either_by_rising_places(self):
        links = [(0, 7), (1, 8), (4, 10), (5, 11), (6, 2)]
        for first, second in ((0, 0), (0, 1), (1, 0), (1, 1)):
            edges = links + [(2, 0), (2, 1), (6, 4 + first), (9, 7 + second), (12, 10), (12, 11)]
            self.assertEqual(edges_by(cut_pairs(), [first, second]), edges)
        web = bad_right_web()
        self.assertEqual(edges_by(web, [1]), [(0, 1), (2, 3), (4, 2), (5, 4), (5, 3)])
        self.assertEqual(edges_by(web, [0]), [(0, 1), (2, 3), (4, 0), (5, 4), (5, 3)])

    def test_word_for_word(self):
        for web in many_webs():
            for choices in all_choices(web):
                told = unchanged(self, edges_by, web, choices)
                self.assertEqual(told, plain_edges(web, choices))
                self.assertTrue(all(type(edge) is tuple for edge in told))


class WrongChoices(unittest.TestCase):
    def refuse(self, web, *lists):
        for choices in lists:
            for call in (edges_by, fault_by):
                refused(self, BadChoices, call, web, choices)

    def test_too_few(self):
        self.refuse(one_either(), [])
        self.refuse(cut_pairs(), [], [0], [1])
        self.refuse(bad_at([1] * 10), [1] * 9, [])

    def test_too_many(self):
        self.refuse(wire(), [0], [1], [0, 0])
        self.refuse(ring_web(), [0])
        self.refuse(one_either(), [0, 0], [1, 1], [0] * 120)
        self.refuse(cut_pairs(), [0, 0, 0])

    def test_other_numbers(self):
        for number in (-1, -2, 2, 3, 10, FAR, -FAR, VERY_FAR, -VERY_FAR):
            self.refuse(one_either(), [number])
            self.refuse(cut_pairs(), [number, 0], [1, number], [number, number])
            self.refuse(bad_at([1, 1, 1]), [0, number, 1])

    def test_other_numbers_in_lists_of_another_length(self):
        self.refuse(wire(), [2], [-1])
        self.refuse(one_either(), [0, 2], [2, 0])


class NoFault(unittest.TestCase):
    def test_some_webs(self):
        self.assertIsNone(fault_by(wire(), []))
        self.assertIsNone(fault_by(cut_leaves(), []))
        self.assertIsNone(fault_by(two_cuts(), []))
        self.assertIsNone(fault_by(one_either(), [0]))
        self.assertIsNone(fault_by(one_either(), [1]))
        self.assertIsNone(fault_by(bad_right_web(), [0]))
        self.assertIsNone(fault_by(([None, A, None, NOT_A, None], [(1, 3)], []), []))

    def test_no_switching_of_a_trees_web(self):
        for tree in sound_trees() + [mirror_tree(deep_left(6)), cut_mirrors(wide(4)), chain_of_cuts(60)]:
            web = web_of(tree)
            for choices in all_choices(web):
                self.assertIsNone(fault_by(web, choices))


class Rings(unittest.TestCase):
    def test_of_three_edges(self):
        self.assertEqual(fault_by(ring_web(), []), ("ring", [0, 1, 2]))

    def test_of_two_edges_between_the_same_two_places(self):
        self.assertEqual(fault_by(closed_wire(), []), ("ring", [0, 1]))
        self.assertEqual(fault_by(([A, NOT_A], [(0, 1)], [(1, 0)]), []), ("ring", [0, 1]))
        beside = ([None, B, NOT_B, None, A, NOT_A], [(1, 2), (4, 5)], [(5, 4)])
        self.assertEqual(fault_by(beside, []), ("ring", [1, 2]))

    def test_only_the_edges_of_the_ring(self):
        knots = [A, NOT_A, ("both", 0, 1), B, NOT_B, ("both", 2, 3)]
        self.assertEqual(fault_by((knots, [(0, 1), (3, 4)], []), []), ("ring", [0, 2, 3]))
        self.assertEqual(fault_by(bad_right_web(), [1]), ("ring", [1, 2, 3, 4]))

    def test_through_cuts(self):
        knots = [A, NOT_A, A, NOT_A]
        self.assertEqual(fault_by((knots, [(0, 1), (2, 3)], [(0, 3), (1, 2)]), []), ("ring", [0, 1, 2, 3]))
        self.assertEqual(fault_by((knots, [(0, 3), (1, 2)], [(0, 1), (2, 3)]), []), ("ring", [0, 1, 2, 3]))

    def test_where_the_web_also_falls_apart(self):
        self.assertEqual(fault_by(ring_and_parts(), []), ("ring", [1, 2, 3]))
        self.assertEqual(fault_by(shifted_web(ring_and_parts()), []), ("ring", [1, 2, 3]))
        self.assertEqual(fault_by(([A, NOT_A, B, NOT_B], [(0, 1), (2, 3)], [(0, 1)]), []), ("ring", [0, 2]))
        self.assertEqual(fault_by(([A, NOT_A, B, NOT_B], [(0, 1), (2, 3)], [(2, 3)]), []), ("ring", [1, 2]))

    def test_one_of_two_rings(self):
        web = ([A, NOT_A, B, NOT_B], [(0, 1), (2, 3)], [(0, 1), (2, 3)])
        check_fault(self, web, [])
        self.assertIn(fault_by(web, []), (("ring", [0, 2]), ("ring", [1, 3])))

    def test_a_long_one(self):
        for count in (2, 3, 10, 13):
            self.assertEqual(fault_by(bad_at([1] * count), [1] * (count - 1) + [0]), None)
            fault = check_fault(self, bad_at([1] * count), [1] * count)
            self.assertEqual(len(fault[1]), 4 * count)

    def test_a_ring_of_cuts_through_all_places(self):
        knots, links, cuts = web_of(chain_of_cuts(60))
        web = (knots, links, sorted(cuts + [(1, 118)]))
        self.assertIs(checked_web(web), True)
        self.assertEqual(fault_by(web, []), ("ring", list(range(120))))


class Parts(unittest.TestCase):
    def test_the_piece_of_the_lowest_place(self):
        self.assertEqual(fault_by(two_wires(), []), ("parts", [0, 1]))
        self.assertEqual(fault_by(([A, B, NOT_B, NOT_A], [(0, 3), (1, 2)], []), []), ("parts", [0, 3]))

    def test_by_the_choices(self):
        self.assertEqual(fault_by(apart(), [0]), ("parts", [0, 2, 3]))
        self.assertEqual(fault_by(apart(), [1]), ("parts", [0, 3]))

    def test_with_gone_places(self):
        self.assertEqual(fault_by(([None, A, NOT_A, None, B, NOT_B], [(1, 2), (4, 5)], []), []), ("parts", [1, 2]))
        self.assertEqual(fault_by(shifted_web(apart()), [1]), ("parts", [2, 6]))

    def test_three_pieces(self):
        web = ([A, NOT_A, B, NOT_B, C, NOT_C], [(0, 1), (2, 3), (4, 5)], [])
        self.assertEqual(fault_by(web, []), ("parts", [0, 1]))

    def test_rising_where_it_was_put_together_from_above(self):
        knots = [A, B, NOT_B, NOT_A, B, NOT_B, ("both", 3, 5)]
        self.assertEqual(fault_by((knots, [(0, 3), (1, 2), (4, 5)], []), []), ("parts", [0, 3, 4, 5, 6]))


class FaultsBesideThePoint(unittest.TestCase):
    def test_many_webs(self):
        kinds = {None: 0, "ring": 0, "parts": 0}
        for web in many_webs():
            self.assertIs(checked_web(web), True)
            for choices in all_choices(web):
                fault = check_fault(self, web, choices)
                kinds[fault and fault[0]] += 1
        self.assertTrue(all(count > 20 for count in kinds.values()), kinds)


class FirstBadTried(unittest.TestCase):
    def test_none(self):
        for web in (wire(), one_either(), cut_leaves(), two_cuts(), cut_pairs()):
            self.assertIsNone(unchanged(self, first_bad_tried, web))
        for tree in sound_trees():
            self.assertIsNone(first_bad_tried(web_of(tree)))

    def test_no_choices(self):
        self.assertEqual(first_bad_tried(ring_web()), [])
        self.assertEqual(first_bad_tried(two_wires()), [])
        self.assertEqual(first_bad_tried(closed_wire()), [])

    def test_the_first_one(self):
        self.assertEqual(first_bad_tried(apart()), [0])
        self.assertEqual(first_bad_tried(bad_right_web()), [1])

    def test_each_switching_of_some_counts_as_the_only_one(self):
        for count in (1, 2, 3, 4):
            for choices in itertools.product((0, 1), repeat=count):
                web = bad_at(list(choices))
                self.assertIs(checked_web(web), True)
                self.assertEqual(first_bad_tried(web), list(choices))

    def test_the_first_of_several(self):
        for web in many_webs():
            bad = [choices for choices in all_choices(web) if fault_by(web, choices) is not None]
            told = unchanged(self, first_bad_tried, web)
            self.assertEqual(told, bad[0] if bad else None)

    def test_ten_either_knots(self):
        for choices in ([1] * 10, [0] * 10, [1, 0] * 5, [0] * 9 + [1], [1] + [0] * 9):
            self.assertEqual(first_bad_tried(bad_at(choices)), choices)
        right = web_of(mirror_tree(deep_left(11)))
        self.assertEqual(len(eithers_of(right)), 10)
        self.assertIsNone(first_bad_tried(right))

    def test_eleven_either_knots_are_refused(self):
        refused(self, TooMany, first_bad_tried, bad_at([0] * 11))
        refused(self, TooMany, first_bad_tried, bad_at([1] * 11))
        right = web_of(mirror_tree(deep_left(12)))
        self.assertEqual(len(eithers_of(right)), 11)
        refused(self, TooMany, first_bad_tried, right)
        refused(self, TooMany, first_bad_tried, web_of(mirror_tree(deep_left(30))))

    def test_many_both_knots_are_no_matter(self):
        knots = [A, NOT_A] * 20
        for place in range(20):
            knots.append(("both", 2 * place, 2 * place + 1))
        links = [(2 * place, 2 * place + 1) for place in range(20)]
        self.assertEqual(first_bad_tried((knots, links, [])), [])


class AskersOwn(unittest.TestCase):
    def test_told_edges_are_a_new_list(self):
        for web in many_webs():
            choices = all_choices(web)[0]
            edges = edges_by(web, choices)
            kept = list(edges)
            self.assertIsNot(edges, web[1])
            edges.clear()
            self.assertEqual(edges_by(web, choices), kept)

    def test_told_faults_are_new_lists(self):
        for web in (ring_web(), two_wires()):
            fault = fault_by(web, [])
            kept = list(fault[1])
            fault[1].clear()
            self.assertEqual(fault_by(web, [])[1], kept)

    def test_told_choices_are_a_new_list(self):
        web = bad_at([1, 0])
        first_bad_tried(web).clear()
        self.assertEqual(first_bad_tried(web), [1, 0])


if __name__ == "__main__":
    unittest.main()
