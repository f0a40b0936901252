"""Points 11, 12 and 13, and point 1 for oncewise.words."""

import unittest

from oncewise.words import depth_of, is_name, leaves_of, size_of, turned
from samples import A, B, C, NOT_A, NOT_B, NOT_C, deep_left, deep_right, unchanged, wide, words_to_depth

LETTERS = "abcdefghijklmnopqrstuvwxyz"


class Names(unittest.TestCase):
    def test_one_to_eight_small_letters(self):
        for text in list(LETTERS) + ["ab", "azazaz", "abcdefgh", "zzzzzzzz"]:
            with self.subTest(text=text):
                self.assertIs(is_name(text), True)

    def test_all_else_is_no_name(self):
        for text in ["", " ", "abcdefghi", "A", "aB", "a1", "1", "a b", "-a", "a_", "a\n", "\n", "`", "{"]:
            with self.subTest(text=text):
                self.assertIs(is_name(text), False)


class Depth(unittest.TestCase):
    def test_leaves(self):
        self.assertEqual(depth_of(A), 1)
        self.assertEqual(depth_of(("turned", "abcdefgh")), 1)

    def test_one_more_than_the_deeper_part(self):
        self.assertEqual(depth_of(("both", A, NOT_B)), 2)
        self.assertEqual(depth_of(("either", A, NOT_B)), 2)
        self.assertEqual(depth_of(("both", A, ("either", B, C))), 3)
        self.assertEqual(depth_of(("either", ("both", B, C), A)), 3)
        self.assertEqual(depth_of(("both", ("both", A, B), ("either", A, B))), 3)

    def test_lopsided_to_sixty(self):
        for depth in range(1, 61):
            for kind in ("both", "either"):
                with self.subTest(depth=depth, kind=kind):
                    self.assertEqual(depth_of(deep_left(depth, kind)), depth)
                    self.assertEqual(depth_of(deep_right(depth, kind)), depth)

    def test_wide(self):
        self.assertEqual(depth_of(wide(64)), 7)
        self.assertEqual(depth_of(wide(120)), 8)


class TurnedSide(unittest.TestCase):
    def test_leaves_are_each_others(self):
        self.assertEqual(turned(A), NOT_A)
        self.assertEqual(turned(NOT_A), A)
        self.assertEqual(turned(("plain", "abcdefgh")), ("turned", "abcdefgh"))

    def test_both_and_either_keep_left_left(self):
        self.assertEqual(turned(("both", A, NOT_B)), ("either", NOT_A, B))
        self.assertEqual(turned(("either", A, NOT_B)), ("both", NOT_A, B))

    def test_parts_are_turned_at_every_depth(self):
        word = ("both", ("either", A, ("both", B, C)), NOT_C)
        self.assertEqual(turned(word), ("either", ("both", NOT_A, ("either", NOT_B, NOT_C)), C))

    def test_twice_turned_is_the_word(self):
        for word in words_to_depth(3) + [deep_left(60), deep_right(60, "either"), wide(120)]:
            side = turned(word)
            self.assertNotEqual(side, word)
            self.assertEqual(turned(side), word)

    def test_lopsided(self):
        side = turned(deep_left(60))
        for _ in range(59):
            self.assertEqual((side[0], side[2]), ("either", NOT_B))
            side = side[1]
        self.assertEqual(side, NOT_A)


class SizeAndLeaves(unittest.TestCase):
    def test_size(self):
        self.assertEqual(size_of(A), 1)
        self.assertEqual(size_of(NOT_B), 1)
        self.assertEqual(size_of(("both", A, B)), 3)
        self.assertEqual(size_of(("either", A, A)), 3)
        self.assertEqual(size_of(("either", ("both", A, B), C)), 5)
        self.assertEqual(size_of(("both", ("both", A, B), ("either", A, B))), 7)

    def test_size_of_great_words(self):
        for depth in (2, 30, 60):
            self.assertEqual(size_of(deep_left(depth)), 2 * depth - 1)
            self.assertEqual(size_of(deep_right(depth, "either")), 2 * depth - 1)
        self.assertEqual(size_of(wide(120)), 239)

    def test_leaves_from_left_to_right(self):
        self.assertEqual(leaves_of(A), [A])
        self.assertEqual(leaves_of(NOT_A), [NOT_A])
        self.assertEqual(leaves_of(("both", A, NOT_B)), [A, NOT_B])
        word = ("either", ("both", C, NOT_A), ("both", ("either", B, A), NOT_C))
        self.assertEqual(leaves_of(word), [C, NOT_A, B, A, NOT_C])

    def test_a_leaf_that_stands_twice_is_told_twice(self):
        self.assertEqual(leaves_of(("both", A, ("either", A, A))), [A, A, A])

    def test_leaves_of_great_words(self):
        self.assertEqual(leaves_of(deep_left(60)), [A] + [B] * 59)
        self.assertEqual(leaves_of(deep_right(60)), [B] * 59 + [A])
        self.assertEqual(leaves_of(wide(120)), [A] * 120)


class AskersOwn(unittest.TestCase):
    def test_what_is_handed_in_stays(self):
        for call in (depth_of, size_of, turned, leaves_of):
            for word in words_to_depth(2):
                unchanged(self, call, word)

    def test_told_leaves_are_a_new_list_each_time(self):
        for word in (A, ("both", A, NOT_B)):
            first = leaves_of(word)
            kept = list(first)
            first.append(C)
            first[0] = C
            self.assertEqual(leaves_of(word), kept)


if __name__ == "__main__":
    unittest.main()
