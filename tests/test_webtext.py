"""Points 25 and 26, and point 1 for oncewise.webtext."""

import re
import unittest

from oncewise.errors import BadText, BadWeb
from oncewise.trees import web_of
from oncewise.webs import checked_web, laid
from oncewise.webtext import read_web, written_web
from samples import (
    A, B, NOT_A, NOT_B, bad_at, bad_right_web, cut_leaves, cut_pairs, loosened, refused, ring_web, sound_trees,
    sound_webs, two_cuts, unchanged, wide, wire,
)

WIRE = "knot 0 +a\nknot 1 -a\nlink 0 1\n"

CUT_LEAVES = """\
knot 0 +a
knot 1 -a
knot 2 +a
knot 3 -a
link 0 1
link 2 3
cut 1 2
"""

CUT_PAIRS = """\
knot 0 +a
knot 1 +b
knot 2 both 0 1
knot 3 gone
knot 4 -a
knot 5 -b
knot 6 either 4 5
knot 7 -a
knot 8 -b
knot 9 either 7 8
knot 10 +a
knot 11 +b
knot 12 both 10 11
link 0 7
link 1 8
link 4 10
link 5 11
cut 6 2
"""

NUMBER = "(0|[1-9][0-9]{0,3})"
KNOT_LINE = re.compile(rf"knot {NUMBER} ([+-][a-z]{{1,8}}|gone|(both|either) {NUMBER} {NUMBER})")
LINES = {
    "knot": KNOT_LINE,
    "link": re.compile(rf"link {NUMBER} {NUMBER}"),
    "cut": re.compile(rf"cut {NUMBER} {NUMBER}"),
}

BAD_NUMBERS = ["00", "01", "007", "+1", "-1", "-0", "10000", "00000", "1a", "a", "1.", "1,", "0x1", "1_0", "(1)", "''"]


def many_webs():
    webs = sound_webs() + [ring_web(), bad_right_web(), bad_at([1, 0, 1])]
    return webs + [web_of(tree) for tree in sound_trees()]


def lines_by_patterns(text):
    """The lines of point 26, found by patterns; None where the text is not well written."""
    lines = [re.sub(" +", " ", line.strip(" ")) for line in text.split("\n")]
    lines = [line for line in lines if line != ""]
    kinds = [line.split(" ")[0] for line in lines]
    if any(kind not in LINES for kind in kinds) or kinds != sorted(kinds, key=list(LINES).index):
        return None
    if not all(LINES[kind].fullmatch(line) for kind, line in zip(kinds, lines)):
        return None
    places = [line.split(" ")[1] for line in lines if line.startswith("knot")]
    return lines if places == [str(place) for place in range(len(places))] else None


def knot_by_line(line):
    words = line.split(" ")[2:]
    if words == ["gone"]:
        return None
    if len(words) == 1:
        return ("plain" if words[0][0] == "+" else "turned", words[0][1:])
    return (words[0], int(words[1]), int(words[2]))


def expected(text):
    lines = lines_by_patterns(text)
    if lines is None:
        return BadText
    pairs = {"link": [], "cut": []}
    for line in lines:
        if not line.startswith("knot"):
            kind, p, q = line.split(" ")
            pairs[kind].append((int(p), int(q)))
    web = ([knot_by_line(line) for line in lines if line.startswith("knot")], pairs["link"], pairs["cut"])
    try:
        checked_web(web)
    except BadWeb:
        return BadWeb
    return web


def read_or_refusal(text):
    try:
        return read_web(text)
    except (BadText, BadWeb) as error:
        return type(error)


class Written(unittest.TestCase):
    def test_line_by_line(self):
        self.assertEqual(written_web(wire()), WIRE)
        self.assertEqual(written_web(cut_leaves()), CUT_LEAVES)
        self.assertEqual(written_web(cut_pairs()), CUT_PAIRS)

    def test_parts_in_their_order(self):
        web = ([NOT_A, None, A, ("either", 2, 0)], [(0, 2)], [])
        self.assertEqual(written_web(web), "knot 0 -a\nknot 1 gone\nknot 2 +a\nknot 3 either 2 0\nlink 0 2\n")
        web = ([A, NOT_A, ("both", 1, 0)], [(0, 1)], [])
        self.assertEqual(written_web(web), "knot 0 +a\nknot 1 -a\nknot 2 both 1 0\nlink 0 1\n")

    def test_links_and_cuts_in_their_order(self):
        web = (two_cuts()[0], two_cuts()[1], [(1, 4), (3, 2)])
        lines = ["link 0 1", "link 2 3", "link 4 5", "cut 1 4", "cut 3 2", ""]
        self.assertEqual(written_web(web).split("\n")[6:], lines)

    def test_names_of_eight_letters(self):
        web = ([("plain", "abcdefgh"), ("turned", "abcdefgh")], [(0, 1)], [])
        self.assertEqual(written_web(web), "knot 0 +abcdefgh\nknot 1 -abcdefgh\nlink 0 1\n")

    def test_numbers_of_more_figures(self):
        knots = [None] * 118 + [A, NOT_A]
        lines = [f"knot {place} gone\n" for place in range(118)] + ["knot 118 +a\nknot 119 -a\nlink 118 119\n"]
        self.assertEqual(written_web((knots, [(118, 119)], [])), "".join(lines))


class ReadBack(unittest.TestCase):
    def test_lines(self):
        self.assertEqual(read_web(WIRE), wire())
        self.assertEqual(read_web(CUT_LEAVES), cut_leaves())
        self.assertEqual(read_web(CUT_PAIRS), cut_pairs())

    def test_written_webs(self):
        for web in many_webs():
            with self.subTest(web=web):
                self.assertEqual(read_web(written_web(web)), web)

    def test_a_great_web(self):
        word = wide(60)
        knots = laid([word])[0]
        leaves = [place for place, knot in enumerate(knots) if len(knot) == 2]
        for place in leaves[1::2]:
            knots[place] = NOT_A
        web = (knots, list(zip(leaves[::2], leaves[1::2])), [])
        self.assertEqual(len(knots), 119)
        self.assertEqual(read_web(written_web(web)), web)

    def test_kinds_of_the_answer(self):
        web = read_web(CUT_LEAVES)
        self.assertIs(type(web), tuple)
        self.assertEqual([type(part) for part in web], [list] * 3)
        self.assertEqual([type(entry) for part in web for entry in part], [tuple] * 7)

    def test_each_small_letter_in_a_name(self):
        for letter in "abcdefghijklmnopqrstuvwxyz":
            web = ([("plain", letter), ("turned", letter)], [(0, 1)], [])
            self.assertEqual(read_web(f"knot 0 +{letter}\nknot 1 -{letter}\nlink 0 1\n"), web)


class ReadLoosely(unittest.TestCase):
    def test_blanks_and_lines_of_blanks(self):
        for web in many_webs():
            for text in loosened(written_web(web)):
                with self.subTest(text=text):
                    self.assertEqual(read_web(text), web)

    def test_no_last_line_feed(self):
        self.assertEqual(read_web(WIRE[:-1]), wire())
        self.assertEqual(read_web(WIRE[:-1] + "   "), wire())

    def test_lines_of_blanks_between_the_kinds(self):
        text = "\n  \nknot 0 +a\n\nknot  1  -a\n \n\n   link 0    1   \n     "
        self.assertEqual(read_web(text), wire())

    def test_a_long_text(self):
        self.assertEqual(read_web(WIRE + " " * (6000 - len(WIRE))), wire())
        self.assertEqual(read_web("\n" * (6000 - len(WIRE)) + WIRE), wire())


class BadTexts(unittest.TestCase):
    def refuse(self, *texts):
        for text in texts:
            with self.subTest(text=text):
                refused(self, BadText, read_web, text)

    def test_a_word_too_few_or_too_many(self):
        self.refuse("knot", "knot 0", "knot 0 both", "knot 0 both 1", "knot 0 either 1", "knot 0 gone 1")
        self.refuse("knot 0 +a b", "knot 0 + a", "knot 0 - a", "knot 0 both 1 2 3", "knot 0 gone gone", "knot 0 +a 0")
        for kind in ("link", "cut"):
            self.refuse(WIRE + kind, WIRE + f"{kind} 0", WIRE + f"{kind} 0 1 2", WIRE + f"{kind} 0 1 {kind} 0 1")

    def test_each_line_of_a_text_with_a_word_less_or_more(self):
        lines = CUT_PAIRS.split("\n")[:-1]
        for at, line in enumerate(lines):
            words = line.split(" ")
            for spoilt in (words[:-1], words[1:], words + ["0"], words + ["gone"], ["knot"] + words):
                self.refuse("\n".join(lines[:at] + [" ".join(spoilt)] + lines[at + 1:]))

    def test_another_first_word(self):
        for word in ("Knot", "knots", "kno", "KNOT", "0", "tree", "web", "#", "+a", "gone", "kn ot"):
            self.refuse(WIRE.replace("knot 1", f"{word} 1"), WIRE + f"{word} 0 1")
        for word in ("links", "lin", "Link", "cuts", "Cut", "tree", "ends"):
            self.refuse(WIRE.replace("link", word), WIRE + f"{word} 0 1")
        self.refuse("hello", "knot0 +a", WIRE.replace("link 0 1", "link01"), "-", "tree link 0 1")

    def test_another_kind(self):
        for kind in ("Both", "neither", "either,", "and", "plain", "turned", "link", "gone"):
            self.refuse(WIRE.replace("link", f"knot 2 {kind} 0 1\nlink"))
        for kind in ("Gone", "none", "None", "a", "both", "either", "plain", "0", "~a", "*a", "&a", "=a"):
            self.refuse(WIRE.replace("link", f"knot 2 {kind}\nlink"))

    def test_numbers(self):
        for number in BAD_NUMBERS:
            self.refuse(WIRE.replace("knot 1", f"knot {number}"))
            self.refuse(WIRE.replace("link 0 1", f"link 0 {number}"), WIRE.replace("link 0 1", f"link {number} 1"))
            self.refuse(WIRE + f"cut 0 {number}", WIRE + f"cut {number} 1")
            for kind in ("both", "either"):
                self.refuse(WIRE.replace("link", f"knot 2 {kind} 0 {number}\nlink"))
                self.refuse(WIRE.replace("link", f"knot 2 {kind} {number} 1\nlink"))

    def test_names(self):
        for name in ("", "abcdefghi", "A", "aB", "a1", "1", "a_b", "a-b", "a+b", "+a", "-a", "a.", "a,", "(a)", "a" * 99):
            self.refuse(f"knot 0 +{name}\nknot 1 -a\nlink 0 1\n", f"knot 0 +a\nknot 1 -{name}\nlink 0 1\n")
        self.refuse("knot 0 a\nknot 1 -a\nlink 0 1\n")

    def test_places_out_of_order(self):
        self.refuse("knot 1 +a\nknot 2 -a\nlink 1 2\n", "knot 1 -a\nknot 0 +a\nlink 0 1\n")
        self.refuse("knot 0 +a\nknot 0 -a\nlink 0 1\n", "knot 0 +a\nknot 2 -a\nlink 0 2\n", "knot 9999 +a\n")

    def test_kinds_of_lines_out_of_order(self):
        self.refuse("link 0 1\nknot 0 +a\nknot 1 -a\n", "knot 0 +a\nlink 0 1\nknot 1 -a\n")
        self.refuse("cut 0 1\nknot 0 +a\nknot 1 -a\nlink 0 1", "knot 0 +a\nknot 1 -a\ncut 0 1\nlink 0 1\n")
        self.refuse("knot 0 +a\nknot 1 -a\nlink 0 1\ncut 0 1\nknot 2 gone", "link 0 1\ncut 1 0\nlink 2 3\n")

    def test_other_signs(self):
        self.refuse(WIRE + ".", WIRE.replace("\n", ";"), WIRE.replace("\n", " "), WIRE.replace(" ", "_"))
        self.refuse(WIRE.replace(" ", "\n"), WIRE + "# link 0 1")

    def test_whatever_else_is_wrong(self):
        self.refuse("knot 0 +a\nlink 5 5\ncut 01 3", "knot 0 both 7 7\nknot 1 -A", "link 3 1\nlink 0", "cut 0 0\nx")
        self.refuse("knot 0 gone\nlink 0 00", "knot 0 +a\nknot 2 -a")


class BadWebs(unittest.TestCase):
    def refuse(self, *texts):
        for text in texts:
            with self.subTest(text=text):
                refused(self, BadWeb, read_web, text)

    def test_without_a_knot_line(self):
        self.refuse("", " ", "\n", "  \n \n\n", "link 0 1\n", "cut 0 1\n", "link 0 1\ncut 0 1\n", "link 1 0")

    def test_knots_that_are_not_sound(self):
        self.refuse("knot 0 gone\n", "knot 0 gone\nknot 1 gone", "knot 0 both 0 0", "knot 0 either 0 1")
        self.refuse(WIRE.replace("link", "knot 2 both 0 2\nlink"), WIRE.replace("link", "knot 2 both 0 9999\nlink"))
        self.refuse(WIRE.replace("link", "knot 2 either 1 1\nlink"))
        self.refuse(WIRE.replace("link", "knot 2 gone\nknot 3 both 0 2\nlink"))
        self.refuse(WIRE.replace("link", "knot 2 both 0 1\nknot 3 either 1 2\nlink"))

    def test_links_that_are_not_sound(self):
        for line in ("", "link 1 0", "link 0 0", "link 0 2", "link 0 9999", "link 0 1\nlink 0 1", "link 1 2"):
            self.refuse(WIRE.replace("link 0 1", line))
        self.refuse(WIRE.replace("-a", "-b"), WIRE.replace("-a", "+a"), "knot 0 +a")
        self.refuse(CUT_LEAVES.replace("link 0 1\nlink 2 3", "link 2 3\nlink 0 1"))

    def test_cuts_that_are_not_sound(self):
        for line in ("cut 1 3", "cut 0 2", "cut 1 1", "cut 1 4", "cut 9999 1", "cut 1 2\ncut 1 2", "cut 1 2\ncut 3 2"):
            self.refuse(CUT_LEAVES.replace("cut 1 2", line))
        three = written_web(two_cuts())
        self.refuse(three.replace("cut 1 2\ncut 3 4", "cut 3 4\ncut 1 2"))
        self.refuse(CUT_PAIRS.replace("cut 6 2", "cut 6 3"), CUT_PAIRS.replace("cut 6 2", "cut 4 0"))


class BesidePatterns(unittest.TestCase):
    """Each text that differs by one sign is read just where the patterns of point 26 fit."""

    def check(self, text):
        self.assertEqual(read_or_refusal(text), expected(text), text)

    def test_one_sign_less(self):
        for text in (WIRE, CUT_LEAVES, CUT_PAIRS):
            for at in range(len(text)):
                self.check(text[:at] + text[at + 1:])

    def test_one_sign_more_or_another(self):
        for text in (WIRE, CUT_PAIRS):
            for at in range(len(text) + 1):
                for sign in "0 1a+-\nk~":
                    self.check(text[:at] + sign + text[at:])
                    self.check(text[:at] + sign + text[at + 1:])

    def test_two_lines_exchanged_or_one_left_out_or_doubled(self):
        lines = CUT_PAIRS.split("\n")[:-1]
        for at in range(len(lines)):
            self.check("\n".join(lines[:at] + lines[at + 1:]))
            self.check("\n".join(lines[:at] + [lines[at]] + lines[at:]))
            for other in range(at):
                mixed = list(lines)
                mixed[at], mixed[other] = lines[other], lines[at]
                self.check("\n".join(mixed))


class AskersOwn(unittest.TestCase):
    def test_what_is_handed_in_stays(self):
        for web in many_webs():
            unchanged(self, written_web, web)

    def test_told_lists_are_new_ones(self):
        first = read_web(WIRE)
        for part in first:
            part.append(None)
        self.assertEqual(read_web(WIRE), wire())
        self.assertEqual(first, ([A, NOT_A, None], [(0, 1), None], [None]))

    def test_no_two_told_lists_are_one(self):
        web = read_web("knot 0 +b\nknot 1 -b\nlink 0 1")
        self.assertEqual(web, ([B, NOT_B], [(0, 1)], []))
        self.assertEqual(len({id(part) for part in web}), 3)


if __name__ == "__main__":
    unittest.main()
