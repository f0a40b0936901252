"""Points 21 to 24, and point 1 for oncewise.webs."""

import unittest

from oncewise.errors import BadWeb
from oncewise.webs import are_knots, checked_web, eithers_of, ends_of, laid, word_at
from oncewise.words import size_of, turned
from samples import (
    A, B, C, NOT_A, NOT_B, NOT_C, cut_leaves, cut_pairs, deep_left, deep_right,
    refused, sound_webs, two_cuts, two_wires, unchanged, wide, wire, words_to_depth,
)


def laid_with_turned_side(word):
    """A sound web: a word and its turned side in a cut, and the same two once more as ends."""
    knots, places = laid([word, turned(word), turned(word), word])
    size = size_of(word)
    leaves = [place for place in range(size) if len(knots[place]) == 2]
    links = [(place, place + 2 * size) for place in leaves]
    links += [(place + size, place + 3 * size) for place in leaves]
    return (knots, sorted(links), [(places[0], places[1])])


class WordAt(unittest.TestCase):
    def test_the_word_at_each_place(self):
        knots = [A, NOT_B, ("both", 0, 1), None, NOT_C, ("either", 4, 2), B]
        self.assertEqual(word_at(knots, 0), A)
        self.assertEqual(word_at(knots, 1), NOT_B)
        self.assertEqual(word_at(knots, 2), ("both", A, NOT_B))
        self.assertEqual(word_at(knots, 4), NOT_C)
        self.assertEqual(word_at(knots, 5), ("either", NOT_C, ("both", A, NOT_B)))
        self.assertEqual(word_at(knots, 6), B)

    def test_left_is_the_first_named_though_it_lies_above(self):
        self.assertEqual(word_at([A, B, ("both", 1, 0)], 2), ("both", B, A))

    def test_great_words(self):
        for word in (deep_left(60), deep_right(60, "either"), wide(60)):
            knots, places = laid([word])
            self.assertEqual(word_at(knots, places[0]), word)


class Laid(unittest.TestCase):
    def test_a_leaf(self):
        self.assertEqual(laid([A]), ([A], [0]))
        self.assertEqual(laid([NOT_A, A]), ([NOT_A, A], [0, 1]))

    def test_left_then_right_then_itself(self):
        self.assertEqual(laid([("both", A, NOT_B)]), ([A, NOT_B, ("both", 0, 1)], [2]))
        word = ("either", ("both", A, B), ("either", C, ("both", NOT_A, NOT_B)))
        knots = [
            A, B, ("both", 0, 1),
            C, NOT_A, NOT_B, ("both", 4, 5), ("either", 3, 6),
            ("either", 2, 7),
        ]
        self.assertEqual(laid([word]), (knots, [8]))

    def test_words_one_behind_the_other(self):
        words = [("either", B, A), NOT_C, ("both", NOT_A, C)]
        knots = [B, A, ("either", 0, 1), NOT_C, NOT_A, C, ("both", 4, 5)]
        self.assertEqual(laid(words), (knots, [2, 3, 6]))

    def test_the_same_word_twice_is_laid_twice(self):
        pair = ("both", A, A)
        self.assertEqual(laid([pair, pair]), ([A, A, ("both", 0, 1), A, A, ("both", 3, 4)], [2, 5]))

    def test_kinds_of_the_answer(self):
        answer = laid([A, B])
        self.assertIs(type(answer), tuple)
        self.assertIs(type(answer[0]), list)
        self.assertIs(type(answer[1]), list)

    def test_words_are_found_again_and_no_place_is_gone(self):
        row = words_to_depth(2)
        knots, places = laid(row)
        self.assertEqual(len(knots), sum([size_of(word) for word in row]))
        self.assertNotIn(None, knots)
        self.assertEqual([word_at(knots, place) for place in places], row)

    def test_great_words(self):
        for word in (deep_left(60), deep_right(60)):
            knots, places = laid([word])
            self.assertEqual((len(knots), places), (119, [118]))


class SoundWebs(unittest.TestCase):
    def test_the_samples(self):
        for web in sound_webs():
            with self.subTest(web=web):
                self.assertIs(unchanged(self, checked_web, web), True)

    def test_one_word_alone(self):
        self.assertIs(checked_web(([A, NOT_A, ("either", 0, 1)], [(0, 1)], [])), True)
        self.assertIs(checked_web(([NOT_A, A, ("both", 1, 0)], [(0, 1)], [])), True)

    def test_gone_places_at_either_end_and_between(self):
        self.assertIs(checked_web(([None, A, None, NOT_A, None], [(1, 3)], [])), True)

    def test_a_cut_in_either_order(self):
        self.assertIs(checked_web((cut_leaves()[0], cut_leaves()[1], [(1, 2)])), True)
        self.assertIs(checked_web((cut_leaves()[0], cut_leaves()[1], [(2, 1)])), True)
        self.assertIs(checked_web((cut_pairs()[0], cut_pairs()[1], [(2, 6)])), True)
        self.assertIs(checked_web((cut_pairs()[0], cut_pairs()[1], [(6, 2)])), True)

    def test_a_cut_of_linked_leaves(self):
        self.assertIs(checked_web(([A, NOT_A], [(0, 1)], [(0, 1)])), True)

    def test_cuts_rise_by_their_first_places_alone(self):
        self.assertIs(checked_web((two_cuts()[0], two_cuts()[1], [(1, 4), (3, 2)])), True)
        self.assertIs(checked_web((two_cuts()[0], two_cuts()[1], [(2, 1), (4, 3)])), True)

    def test_a_leaf_in_a_link_may_be_linked_with_any_of_its_name(self):
        knots = [A, NOT_A, NOT_A, A]
        self.assertIs(checked_web((knots, [(0, 1), (2, 3)], [])), True)
        self.assertIs(checked_web((knots, [(0, 2), (1, 3)], [])), True)

    def test_a_knot_whose_left_part_lies_above_its_right_part(self):
        knots = [NOT_B, NOT_A, ("either", 1, 0), A, B, ("both", 3, 4)]
        self.assertIs(checked_web((knots, [(0, 4), (1, 3)], [(2, 5)])), True)

    def test_great_webs(self):
        for word in (deep_left(15), deep_right(15, "either"), wide(15)):
            web = laid_with_turned_side(word)
            self.assertEqual(len(web[0]), 116)
            self.assertIs(unchanged(self, checked_web, web), True)

    def test_a_word_of_depth_sixty(self):
        word = A
        for number in range(59):
            word = ("both", word, NOT_A if number % 2 == 0 else A)
        knots = laid([word])[0]
        leaves = [place for place, knot in enumerate(knots) if len(knot) == 2]
        links = list(zip(leaves[::2], leaves[1::2]))
        self.assertEqual(len(knots), 119)
        self.assertIs(checked_web((knots, links, [])), True)


class BrokenKnots(unittest.TestCase):
    def refuse(self, knots, links):
        refused(self, BadWeb, checked_web, (knots, links, []))

    def test_no_place(self):
        self.refuse([], [])

    def test_all_places_gone(self):
        self.refuse([None], [])
        self.refuse([None] * 120, [])

    def test_a_part_out_of_range(self):
        for kind in ("both", "either"):
            for part in (3, 4, 120, 10 ** 30):
                self.refuse([A, NOT_A, (kind, 0, part)], [(0, 1)])
                self.refuse([A, NOT_A, (kind, part, 0)], [(0, 1)])

    def test_a_part_below_nought(self):
        for part in (-1, -2, -3, -4, -(10 ** 30)):
            self.refuse([A, NOT_A, ("either", 0, part)], [(0, 1)])
            self.refuse([A, NOT_A, ("both", part, 0)], [(0, 1)])

    def test_a_part_that_is_gone(self):
        self.refuse([A, NOT_A, None, ("either", 0, 2)], [(0, 1)])
        self.refuse([A, NOT_A, None, ("both", 2, 1)], [(0, 1)])

    def test_a_part_not_below_its_knot(self):
        self.refuse([("either", 1, 2), A, NOT_A], [(1, 2)])
        self.refuse([A, ("either", 0, 2), NOT_A], [(0, 2)])
        self.refuse([A, ("either", 2, 0), NOT_A], [(0, 2)])

    def test_a_knot_that_is_its_own_part(self):
        self.refuse([A, NOT_A, ("either", 0, 2)], [(0, 1)])
        self.refuse([A, NOT_A, ("both", 2, 0)], [(0, 1)])
        self.refuse([A, NOT_A, ("both", 0, 3), ("either", 1, 2)], [(0, 1)])

    def test_the_same_part_twice(self):
        self.refuse([A, NOT_A, ("either", 0, 0)], [(0, 1)])
        self.refuse([A, NOT_A, ("both", 1, 1)], [(0, 1)])
        self.assertIs(are_knots([A, NOT_A, ("either", 0, 0)]), False)
        self.assertIs(are_knots([A, NOT_A, ("either", 0, 1)]), True)

    def test_a_part_of_two_knots(self):
        four = [A, NOT_A, B, NOT_B]
        links = [(0, 1), (2, 3)]
        self.refuse(four + [("both", 0, 2), ("either", 0, 3)], links)
        self.refuse(four + [("both", 0, 2), ("either", 3, 2)], links)
        self.refuse(four + [("both", 0, 2), ("either", 4, 0)], links)

    def test_a_web_that_would_tell_a_word_of_endless_size_is_refused_soon(self):
        knots = [A, NOT_A]
        for place in range(2, 119):
            knots.append(("both", place - 1, place - 2))
        knots.append(("either", 117, 116))
        refused(self, BadWeb, checked_web, (knots, [(0, 1)], [(118, 119)]))


class BrokenLinks(unittest.TestCase):
    def refuse(self, knots, links, cuts=()):
        refused(self, BadWeb, checked_web, (knots, links, list(cuts)))

    def test_out_of_order(self):
        self.refuse(two_wires()[0], [(2, 3), (0, 1)])
        self.refuse([A, A, NOT_A, NOT_A], [(1, 2), (0, 3)])

    def test_turned(self):
        self.refuse(wire()[0], [(1, 0)])
        self.refuse(two_wires()[0], [(0, 1), (3, 2)])

    def test_doubled(self):
        self.refuse(wire()[0], [(0, 1), (0, 1)])
        self.refuse(two_wires()[0], [(0, 1), (0, 1), (2, 3)])

    def test_left_out(self):
        self.refuse(wire()[0], [])
        self.refuse(two_wires()[0], [(0, 1)])
        self.refuse(two_wires()[0], [(2, 3)])
        self.refuse([A], [])
        self.refuse([A, NOT_A, ("either", 0, 1), C], [(0, 1)])

    def test_out_of_range(self):
        for extra in [(0, 2), (1, 2), (2, 3), (-1, 0), (-2, -1), (-1, 5), (-9, 1), (0, 10 ** 30)]:
            with self.subTest(extra=extra):
                self.refuse(wire()[0], [extra])
                self.refuse(wire()[0], sorted([(0, 1), extra]))

    def test_of_one_place(self):
        self.refuse(wire()[0], [(0, 0)])
        self.refuse(wire()[0], [(0, 1), (1, 1)])

    def test_of_unlike_names(self):
        self.refuse([A, NOT_B], [(0, 1)])
        self.refuse(two_wires()[0], [(0, 3), (1, 2)])

    def test_of_like_kinds(self):
        self.refuse([A, A], [(0, 1)])
        self.refuse([NOT_A, NOT_A], [(0, 1)])
        self.refuse([A, A, NOT_A, NOT_A], [(0, 1), (2, 3)])

    def test_of_what_is_no_leaf(self):
        knots = [A, B, ("both", 0, 1), NOT_A, NOT_B, ("either", 3, 4)]
        self.refuse(knots, [(0, 3), (1, 4), (2, 5)])
        self.refuse(knots, [(0, 3), (1, 4), (4, 5)])
        self.refuse(knots, [(0, 3), (1, 2), (1, 4)])

    def test_of_a_gone_place(self):
        self.refuse([A, NOT_A, None], [(0, 1), (1, 2)])
        self.refuse([None, A, NOT_A], [(0, 1), (1, 2)])
        self.refuse([A, NOT_A, None, None], [(0, 1), (2, 3)])

    def test_two_at_one_leaf(self):
        self.refuse([A, NOT_A, NOT_A], [(0, 1), (0, 2)])
        self.refuse([A, A, NOT_A], [(0, 2), (1, 2)])
        self.refuse([A, NOT_A, A, NOT_A], [(0, 1), (0, 3), (2, 3)])

    def test_also_beside_cuts(self):
        self.refuse(cut_leaves()[0], [(0, 1)], [(1, 2)])


class BrokenCuts(unittest.TestCase):
    def refuse(self, web, cuts):
        self.assertIs(checked_web(web), True)
        refused(self, BadWeb, checked_web, (web[0], web[1], cuts))

    def test_out_of_order(self):
        self.refuse(two_cuts(), [(3, 4), (1, 2)])
        self.refuse(two_cuts(), [(3, 2), (1, 4)])

    def test_doubled(self):
        self.refuse(cut_leaves(), [(1, 2), (1, 2)])
        self.refuse(cut_leaves(), [(1, 2), (2, 1)])
        self.refuse(cut_pairs(), [(2, 6), (2, 6)])

    def test_out_of_range(self):
        for cut in [(1, 4), (4, 1), (0, 5), (10 ** 30, 0), (4, 5)]:
            with self.subTest(cut=cut):
                self.refuse(cut_leaves(), [cut])

    def test_below_nought(self):
        for cut in [(-1, 0), (0, -1), (-2, 1), (2, -3), (-4, -3), (-9, 0), (1, -2)]:
            with self.subTest(cut=cut):
                self.refuse(cut_leaves(), [cut])

    def test_of_one_place(self):
        self.refuse(cut_leaves(), [(1, 1)])
        self.refuse(cut_pairs(), [(9, 9)])

    def test_of_a_gone_place(self):
        self.refuse(cut_pairs(), [(3, 2)])
        self.refuse(cut_pairs(), [(6, 3)])
        self.refuse(([A, NOT_A, None, None], [(0, 1)], []), [(2, 3)])

    def test_of_a_part(self):
        inner = ([A, NOT_A, B, ("either", 1, 2), A, NOT_A, NOT_B], [(0, 1), (2, 6), (4, 5)], [])
        self.refuse(inner, [(4, 1)])
        self.refuse(inner, [(1, 4)])
        self.refuse(inner, [(0, 1)])
        self.refuse(([A, NOT_A, ("either", 0, 1)], [(0, 1)], []), [(0, 1)])

    def test_of_a_place_in_another_cut(self):
        three = ([A, NOT_A, A, NOT_A, A, NOT_A], [(0, 1), (2, 3), (4, 5)], [])
        self.refuse(three, [(1, 2), (1, 4)])
        self.refuse(three, [(1, 2), (3, 2)])
        self.refuse(three, [(1, 2), (2, 3)])
        self.refuse(three, [(1, 2), (4, 1)])

    def test_of_leaves_that_are_not_each_others_turned_side(self):
        self.refuse(two_wires(), [(0, 2)])
        self.refuse(two_wires(), [(0, 3)])
        self.refuse(cut_leaves(), [(0, 2)])
        self.refuse(cut_leaves(), [(1, 3)])

    def test_of_a_leaf_and_a_pair(self):
        self.refuse(([A, NOT_A, ("either", 0, 1), A, NOT_A], [(0, 1), (3, 4)], []), [(2, 3)])
        self.refuse(([A, NOT_A, ("either", 0, 1), A, NOT_A], [(0, 1), (3, 4)], []), [(4, 2)])

    def test_of_pairs_that_are_not_each_others_turned_side(self):
        same_kind = [A, B, ("both", 0, 1), NOT_A, NOT_B, ("both", 3, 4)]
        parts_swapped = [A, B, ("both", 0, 1), NOT_A, NOT_B, ("either", 4, 3)]
        not_turned = [A, NOT_A, ("both", 0, 1), A, NOT_A, ("either", 3, 4)]
        self.refuse((same_kind, [(0, 3), (1, 4)], []), [(2, 5)])
        self.refuse((parts_swapped, [(0, 3), (1, 4)], []), [(2, 5)])
        self.refuse((not_turned, [(0, 1), (3, 4)], []), [(2, 5)])

    def test_of_words_that_differ_deep_within(self):
        knots = [
            A, B, ("both", 0, 1), A, ("either", 2, 3),
            NOT_A, NOT_B, ("both", 5, 6), NOT_A, ("both", 7, 8),
        ]
        links = [(0, 5), (1, 6), (3, 8)]
        self.refuse((knots, links, []), [(4, 9)])
        knots[7] = ("either", 5, 6)
        self.assertIs(checked_web((knots, links, [(4, 9)])), True)


class EndsAndEithers(unittest.TestCase):
    def test_ends(self):
        self.assertEqual(ends_of(wire()), [0, 1])
        self.assertEqual(ends_of(two_wires()), [0, 1, 2, 3])
        self.assertEqual(ends_of(([A, NOT_A, ("either", 0, 1)], [(0, 1)], [])), [2])

    def test_places_in_cuts_are_no_ends(self):
        self.assertEqual(ends_of(cut_leaves()), [0, 3])
        self.assertEqual(ends_of(two_cuts()), [0, 5])
        self.assertEqual(ends_of((two_cuts()[0], two_cuts()[1], [(1, 4), (3, 2)])), [0, 5])

    def test_parts_and_gone_places_are_no_ends(self):
        self.assertEqual(ends_of(cut_pairs()), [9, 12])
        self.assertEqual(ends_of(([None, A, None, NOT_A], [(1, 3)], [])), [1, 3])

    def test_a_web_without_ends(self):
        self.assertEqual(ends_of(([A, NOT_A], [(0, 1)], [(0, 1)])), [])

    def test_eithers(self):
        self.assertEqual(eithers_of(wire()), [])
        self.assertEqual(eithers_of(([A, NOT_A, ("either", 0, 1)], [(0, 1)], [])), [2])
        self.assertEqual(eithers_of(([A, NOT_A, ("both", 0, 1)], [(0, 1)], [])), [])

    def test_eithers_that_are_parts_or_in_cuts(self):
        self.assertEqual(eithers_of(cut_pairs()), [6, 9])
        knots = [None, A, NOT_A, ("either", 1, 2), B, NOT_B, ("either", 4, 5), ("either", 3, 6)]
        self.assertEqual(eithers_of((knots, [(1, 2), (4, 5)], [])), [3, 6, 7])
        self.assertEqual(ends_of((knots, [(1, 2), (4, 5)], [])), [7])

    def test_ends_of_a_laid_row_are_its_words(self):
        row = [("both", A, ("either", B, NOT_C)), NOT_A, ("either", NOT_B, C)]
        knots, places = laid(row)
        web = (knots, [(0, 5), (1, 6), (2, 7)], [])
        self.assertIs(checked_web(web), True)
        self.assertEqual(ends_of(web), places)
        self.assertEqual(eithers_of(web), [3, 8])


class AskersOwn(unittest.TestCase):
    def test_what_is_handed_in_stays(self):
        row = [("both", A, B), NOT_C]
        unchanged(self, laid, row)
        for web in sound_webs():
            unchanged(self, ends_of, web)
            unchanged(self, eithers_of, web)
            for place, knot in enumerate(web[0]):
                if knot is not None:
                    unchanged(self, word_at, web[0], place)

    def test_laid_lists_are_new_ones(self):
        row = [A, B]
        knots, places = laid(row)
        self.assertIsNot(knots, row)
        knots.append(None)
        places.clear()
        self.assertEqual(row, [A, B])
        self.assertEqual(laid(row), ([A, B], [0, 1]))

    def test_told_places_are_a_new_list_each_time(self):
        for call in (ends_of, eithers_of):
            for web in sound_webs():
                first = call(web)
                kept = list(first)
                first.append(99)
                self.assertEqual(call(web), kept)


if __name__ == "__main__":
    unittest.main()
