"""Points 14, 15 and 16, and point 1 for oncewise.wordtext."""

import unittest

from oncewise.errors import NoWord
from oncewise.words import depth_of, leaves_of, turned
from oncewise.wordtext import read_row, read_word, shown_row, shown_word
from samples import (
    A, B, C, NOT_A, NOT_B, NOT_C, deep_left, deep_left_line, deep_right, deep_right_line,
    refused, unchanged, wide, words_to_depth,
)

NO_WORDS = [
    # nothing there
    "", " ", "     ",
    # brackets
    "(", ")", "()", "( )", "(a)", "(a & b", "a & b)", "(a & b))", "((a & b)", "((a & b))", "(-(a & b))",
    ")a & b(", "(a & (b | c)", "((a & b) | c", "a()", "(a", "a)", "[a & b]", "(a & b]", "{a & b}",
    # no brackets round two or three
    "a & b", "a | b", "-a & b", "(a & b) & c", "(a & b & c)", "(a & b | c)",
    # a part or a middle sign is missing, or is another one
    "(& b)", "(a &)", "(a & )", "(&)", "(a b)", "(a (b & c))", "((a & b) c)", "(a && b)", "(a & | b)", "(a - b)",
    "(a &| b)", "(a + b)", "(a , b)", "&", "|", "& a", "a &",
    # a second word behind
    "a b", "a -b", "a a", "(a & b) c", "(a & b)(a & b)", "a (a & b)", "a-", "(a & b)-", "a-b",
    # a minus sign with no word behind it
    "-", "--", "- ", "-)", "-(", "(a & -)", "(- & a)", "-&", "-()", "(-)",
    # other signs
    "A", "aB", "Ab", "a1", "1", "0", "a0b", "a_b", "_", "a.", "a;", "+a", "~a", "!a", "a*b", "(a * b)", "'a'",
    "(a ^ b)", "(a / b)", "a\\", "`", "{", "a=", "(a <b)", "#a", "$", "@", "?", "\"a\"", "a:", "a,", "a, b", ",",
    # line feeds
    "\n", "a\n", "\na", "a\nb", "(a\n& b)", "(a &\nb)", " \n ", "-\na", "(a & b)\n", "(a & b\n)",
    # a run of more than eight letters
    "abcdefghi", "-abcdefghi", "(abcdefghi & b)", "(a | abcdefghi)", "a" * 100, "(a & -abcdefghi)",
]


class Shown(unittest.TestCase):
    def test_leaves(self):
        self.assertEqual(shown_word(A), "a")
        self.assertEqual(shown_word(NOT_A), "-a")
        self.assertEqual(shown_word(("plain", "abcdefgh")), "abcdefgh")
        self.assertEqual(shown_word(("turned", "abcdefgh")), "-abcdefgh")

    def test_both_and_either_sign_by_sign(self):
        self.assertEqual(shown_word(("both", A, B)), "(a & b)")
        self.assertEqual(shown_word(("either", A, B)), "(a | b)")
        self.assertEqual(shown_word(("both", NOT_A, B)), "(-a & b)")
        self.assertEqual(shown_word(("either", B, NOT_A)), "(b | -a)")

    def test_words_within_words(self):
        word = ("both", ("either", A, ("both", NOT_B, C)), ("either", NOT_C, ("plain", "xyz")))
        self.assertEqual(shown_word(word), "((a | (-b & c)) & (-c | xyz))")

    def test_lopsided_to_sixty(self):
        for depth in (1, 2, 3, 59, 60):
            self.assertEqual(shown_word(deep_left(depth)), deep_left_line(depth))
            self.assertEqual(shown_word(deep_right(depth)), deep_right_line(depth))
            self.assertEqual(shown_word(deep_left(depth, "either")), deep_left_line(depth, "|"))
            self.assertEqual(shown_word(deep_right(depth, "either")), deep_right_line(depth, "|"))


class Read(unittest.TestCase):
    def test_leaves(self):
        self.assertEqual(read_word("a"), A)
        self.assertEqual(read_word("-a"), NOT_A)
        self.assertEqual(read_word("xyz"), ("plain", "xyz"))

    def test_each_small_letter(self):
        for letter in "abcdefghijklmnopqrstuvwxyz":
            self.assertEqual(read_word(letter), ("plain", letter))

    def test_both_and_either(self):
        self.assertEqual(read_word("(a & b)"), ("both", A, B))
        self.assertEqual(read_word("(a | b)"), ("either", A, B))
        self.assertEqual(read_word("((a | -b) & c)"), ("both", ("either", A, NOT_B), C))
        self.assertEqual(read_word("(c | (a & -b))"), ("either", C, ("both", A, NOT_B)))

    def test_shown_words_are_read_back(self):
        words = words_to_depth(3) + [wide(120), turned(wide(120))]
        for depth in range(1, 61):
            words.append(deep_left(depth))
            words.append(deep_right(depth, "either"))
        for word in words:
            self.assertEqual(read_word(shown_word(word)), word)

    def test_an_answer_is_made_of_plain_tuples(self):
        word = read_word("-(a & -b)")
        self.assertIs(type(word), tuple)
        self.assertIs(type(word[1]), tuple)
        self.assertEqual(word, ("either", NOT_A, B))


class ReadBlanks(unittest.TestCase):
    def test_blanks_wherever_they_like(self):
        for line in ["(a&-b)", "( a & - b )", "   (   a   &   -   b   )   ", "(a& -b)", " (a &-b)", "(a  &  -b) "]:
            with self.subTest(line=line):
                self.assertEqual(read_word(line), ("both", A, NOT_B))
        self.assertEqual(read_word(" a "), A)
        self.assertEqual(read_word("- - a"), A)
        self.assertEqual(read_word(" -  a"), NOT_A)
        self.assertEqual(read_word("- ( a | b )"), ("both", NOT_A, NOT_B))
        self.assertEqual(read_word("((a&b)|(c&-a))"), ("either", ("both", A, B), ("both", C, NOT_A)))

    def test_no_blank_in_a_name(self):
        for line in ["a b", "ab c", "(a b & c)", "-a b", "(a & b c)"]:
            with self.subTest(line=line):
                refused(self, NoWord, read_word, line)


class ReadMinusSigns(unittest.TestCase):
    def test_ahead_of_a_name(self):
        self.assertEqual(read_word("--a"), A)
        self.assertEqual(read_word("---a"), NOT_A)
        for count in range(61):
            with self.subTest(count=count):
                self.assertEqual(read_word("-" * count + "a"), NOT_A if count % 2 else A)
                self.assertEqual(read_word("- " * count + "a"), NOT_A if count % 2 else A)

    def test_ahead_of_brackets(self):
        self.assertEqual(read_word("-(a & b)"), ("either", NOT_A, NOT_B))
        self.assertEqual(read_word("-(a | b)"), ("both", NOT_A, NOT_B))
        self.assertEqual(read_word("--(a & b)"), ("both", A, B))
        self.assertEqual(read_word("-" * 60 + "(a & b)"), ("both", A, B))
        self.assertEqual(read_word("-" * 59 + "(a & b)"), ("either", NOT_A, NOT_B))

    def test_within_brackets(self):
        self.assertEqual(read_word("(--a & ---b)"), ("both", A, NOT_B))
        self.assertEqual(read_word("-(-a & --b)"), ("either", A, NOT_B))
        self.assertEqual(read_word("-(-(a & b) | c)"), ("both", ("both", A, B), NOT_C))
        self.assertEqual(read_word("(a | -(b & -c))"), ("either", A, ("either", NOT_B, C)))
        line = "(" + "-" * 59 + "a & " + "-" * 60 + "(b | " + "-" * 59 + "c))"
        self.assertEqual(read_word(line), ("both", NOT_A, ("either", B, NOT_C)))

    def test_at_every_depth_of_a_deep_word(self):
        line = "a"
        word = A
        for _ in range(59):
            line = f"-({line} & b)"
            word = turned(("both", word, B))
        self.assertEqual(read_word(line), word)
        self.assertEqual(read_word("-" + line), turned(word))

    def test_many_at_every_depth(self):
        line = "-" * 40 + "(a | " + ("-" * 40 + "(b & ") * 58 + "-" * 39 + "c" + ")" * 59
        word = read_word(line)
        self.assertEqual(depth_of(word), 60)
        self.assertEqual(leaves_of(word), [A] + [B] * 58 + [NOT_C])


class ReadBounds(unittest.TestCase):
    def test_depth_sixty_is_read(self):
        for sign, kind in (("&", "both"), ("|", "either")):
            self.assertEqual(read_word(deep_left_line(60, sign)), deep_left(60, kind))
            self.assertEqual(read_word(deep_right_line(60, sign)), deep_right(60, kind))
            self.assertEqual(read_word("-" + deep_left_line(60, sign)), turned(deep_left(60, kind)))

    def test_more_is_refused(self):
        for depth in (61, 62, 100, 150, 201):
            for sign in "&|":
                with self.subTest(depth=depth, sign=sign):
                    refused(self, NoWord, read_word, deep_left_line(depth, sign))
                    refused(self, NoWord, read_word, deep_right_line(depth, sign))
                    refused(self, NoWord, read_word, "-" + deep_right_line(depth, sign))

    def test_too_deep_beside_a_leaf_or_a_shallow_word(self):
        refused(self, NoWord, read_word, f"({deep_left_line(60)} & a)")
        refused(self, NoWord, read_word, f"(a | {deep_right_line(60)})")
        refused(self, NoWord, read_word, f"((a & b) | {deep_left_line(60)})")
        word = ("either", deep_left(59), deep_right(59))
        self.assertEqual(read_word(f"({deep_left_line(59)} | {deep_right_line(59)})"), word)

    def test_two_hundred_opening_brackets(self):
        for line in ["(" * 200, "(" * 200 + "a", "(" * 200 + "a" + ")" * 200, "-(" * 200, "( " * 200 + "a & b)"]:
            with self.subTest(line=line):
                refused(self, NoWord, read_word, line)
        word = wide(201)
        self.assertEqual(shown_word(word).count("("), 200)
        self.assertEqual(read_word(shown_word(word)), word)

    def test_eight_letters_are_a_name_and_nine_are_refused(self):
        self.assertEqual(read_word("abcdefgh"), ("plain", "abcdefgh"))
        self.assertEqual(read_word("-zzzzzzzz"), ("turned", "zzzzzzzz"))
        self.assertEqual(read_word("(abcdefgh|b)"), ("either", ("plain", "abcdefgh"), B))
        refused(self, NoWord, read_word, "abcdefghi")
        refused(self, NoWord, read_word, "(abcdefghi|b)")

    def test_long_lines(self):
        self.assertEqual(read_word(" " * 5999 + "a"), A)
        refused(self, NoWord, read_word, "a" * 6000)
        refused(self, NoWord, read_word, ")" * 6000)


class ReadRefused(unittest.TestCase):
    def test_lines_that_write_no_word(self):
        for line in NO_WORDS:
            with self.subTest(line=line):
                refused(self, NoWord, read_word, line)

    def test_each_sign_that_is_none_of_the_lines(self):
        known = "abcdefghijklmnopqrstuvwxyz ()&|-"
        for sign in [chr(number) for number in range(32, 127)] + ["\n"]:
            if sign in known or sign == chr(37):
                continue
            for line in (sign, "a" + sign, sign + "a", f"(a {sign} b)", f"(a &{sign} b)", f"-{sign}a", f"a{sign}b"):
                with self.subTest(line=line):
                    refused(self, NoWord, read_word, line)


class Rows(unittest.TestCase):
    def test_shown(self):
        self.assertEqual(shown_row([A]), "a")
        self.assertEqual(shown_row([A, NOT_B]), "a, -b")
        self.assertEqual(shown_row([("both", A, B), NOT_C, ("either", A, A)]), "(a & b), -c, (a | a)")

    def test_read(self):
        self.assertEqual(read_row("a"), [A])
        self.assertEqual(read_row("a, -b"), [A, NOT_B])
        self.assertEqual(read_row("(a & b), -c, -(a | a)"), [("both", A, B), NOT_C, ("both", NOT_A, NOT_A)])

    def test_blanks_round_the_commas(self):
        for line in ["a,-b", " a ,-b", "a  ,  - b  ", "   a,   -b"]:
            with self.subTest(line=line):
                self.assertEqual(read_row(line), [A, NOT_B])

    def test_shown_rows_are_read_back(self):
        words = words_to_depth(3)
        for first in range(0, len(words), 16):
            row = words[first:first + 16]
            self.assertEqual(read_row(shown_row(row)), row)
        self.assertEqual(read_row(shown_row([deep_left(60)] * 2)), [deep_left(60)] * 2)

    def test_two_hundred_opening_brackets_in_a_row(self):
        row = [wide(101), turned(wide(101))]
        line = shown_row(row)
        self.assertEqual(line.count("("), 200)
        self.assertEqual(read_row(line), row)

    def test_empty_places_are_refused(self):
        for line in ["", " ", "    ", ",", " , ", ",,", "a,", ",a", "a, ", " ,a", "a,,b", "a, ,b", "a,b,"]:
            with self.subTest(line=line):
                refused(self, NoWord, read_row, line)

    def test_refused_where_any_word_is(self):
        for line in NO_WORDS:
            if "," in line:
                continue
            for row in (line, f"{line},a", f"a,{line}", f"a, {line} , b"):
                with self.subTest(row=row):
                    refused(self, NoWord, read_row, row)
        refused(self, NoWord, read_row, "a, " + deep_left_line(61))
        refused(self, NoWord, read_row, deep_right_line(61) + ", a")

    def test_a_comma_within_brackets_parts_the_line_too(self):
        refused(self, NoWord, read_row, "(a, b)")
        refused(self, NoWord, read_row, "(a & b, c)")

    def test_other_signs_between_words_are_no_commas(self):
        for line in ["a;b", "a b", "a\nb", "a\n,b", "a.b"]:
            with self.subTest(line=line):
                refused(self, NoWord, read_row, line)


class AskersOwn(unittest.TestCase):
    def test_what_is_handed_in_stays(self):
        row = [("both", A, B), NOT_C]
        unchanged(self, shown_row, row)
        unchanged(self, shown_word, row[0])

    def test_told_rows_are_a_new_list_each_time(self):
        first = read_row("a, b")
        first.clear()
        self.assertEqual(read_row("a, b"), [A, B])


if __name__ == "__main__":
    unittest.main()
