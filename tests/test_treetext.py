"""Point 35, and point 1 for oncewise.treetext."""

import re
import unittest

from oncewise.errors import BadText, BadTree
from oncewise.trees import checked_tree
from oncewise.treetext import read_tree, written_tree
from samples import (
    A, B, NOT_A, NOT_B, chain_of_cuts, cut_mirrors, deep_left, deep_right, loosened, mirror_tree, mixed_tree,
    refused, sound_trees, unchanged, wide,
)

WIRE = "knot 0 +a\nknot 1 -a\n"

LINKED = WIRE + "tree link 0 1\n"

CLOSED = WIRE + "knot 2 either 1 0\ntree either 2 link 0 1\n"

BESIDE = WIRE + "knot 2 +b\nknot 3 -b\nknot 4 both 0 3\ntree both 4 link 0 1 link 2 3\n"

MIXED = """\
knot 0 gone
knot 1 +a
knot 2 -a
knot 3 -b
knot 4 +b
knot 5 both 3 1
knot 6 either 4 2
knot 7 -b
knot 8 +b
knot 9 +a
knot 10 -a
knot 11 both 7 9
knot 12 either 8 10
knot 13 gone
tree cut 6 11 either 6 both 5 link 3 4 link 1 2 either 12 both 11 link 7 8 link 9 10
"""

BAD_NUMBERS = ["00", "01", "007", "+1", "-1", "-0", "10000", "00000", "1a", "a", "1.", "1,", "0x1", "1_0", "(1)", "''"]

NUMBER = "(?:0|[1-9][0-9]{0,3})"
KNOT_LINE = re.compile(rf"knot ({NUMBER}) (?:[+-][a-z]{{1,8}}|gone|(?:both|either) {NUMBER} {NUMBER})")
RULE_WORDS = re.compile(rf"tree( (?:link|cut) {NUMBER} {NUMBER}| (?:either|both) {NUMBER})+")
ARMS = {"link": 0, "either": 1, "both": 2, "cut": 2}


def one_rule(words):
    """Whether the rules' words make just one rule, told by the count of the rules that are still due."""
    due = 1
    for word in words:
        if due == 0:
            return False
        due += ARMS[word] - 1
    return due == 0


def well_written(text):
    """Point 35 by patterns, to be set beside the reader."""
    lines = [re.sub(" +", " ", line.strip(" ")) for line in text.split("\n")]
    lines = [line for line in lines if line != ""]
    if not lines or not RULE_WORDS.fullmatch(lines[-1]):
        return False
    if not one_rule([word for word in lines[-1].split(" ") if word in ARMS]):
        return False
    found = [KNOT_LINE.fullmatch(line) for line in lines[:-1]]
    return all(found) and [match[1] for match in found] == [str(place) for place in range(len(found))]


def either_line(count):
    """A tree line of so many rules within one another."""
    return "tree " + "either 2 " * (count - 1) + "link 0 1\n"


def right_line(count, head="both 2"):
    return "tree " + f"{head} link 0 1 " * (count - 1) + "link 0 1\n"


def left_line(count, head="cut 0 1"):
    return "tree " + f"{head} " * (count - 1) + "link 0 1" + " link 0 1" * (count - 1) + "\n"


class Written(unittest.TestCase):
    def test_line_by_line(self):
        self.assertEqual(written_tree(([A, NOT_A], ("link", 0, 1))), LINKED)
        self.assertEqual(written_tree(([A, NOT_A, ("either", 1, 0)], ("either", 2, ("link", 0, 1)))), CLOSED)
        knots = [A, NOT_A, B, NOT_B, ("both", 0, 3)]
        self.assertEqual(written_tree((knots, ("both", 4, ("link", 0, 1), ("link", 2, 3)))), BESIDE)
        self.assertEqual(written_tree(mixed_tree()), MIXED)

    def test_arm_0_ahead_of_arm_1(self):
        knots = [A, NOT_A, A, NOT_A]
        text = "knot 0 +a\nknot 1 -a\nknot 2 +a\nknot 3 -a\ntree cut 2 1 link 2 3 link 0 1\n"
        self.assertEqual(written_tree((knots, ("cut", 2, 1, ("link", 2, 3), ("link", 0, 1)))), text)

    def test_gone_places_alone_beside(self):
        text = "knot 0 gone\nknot 1 -a\nknot 2 gone\nknot 3 +a\ntree link 1 3\n"
        self.assertEqual(written_tree(([None, NOT_A, None, A], ("link", 1, 3))), text)


class ReadBack(unittest.TestCase):
    def test_lines(self):
        self.assertEqual(read_tree(LINKED), ([A, NOT_A], ("link", 0, 1)))
        self.assertEqual(read_tree(CLOSED), ([A, NOT_A, ("either", 1, 0)], ("either", 2, ("link", 0, 1))))
        knots = [A, NOT_A, B, NOT_B, ("both", 0, 3)]
        self.assertEqual(read_tree(BESIDE), (knots, ("both", 4, ("link", 0, 1), ("link", 2, 3))))
        self.assertEqual(read_tree(MIXED), mixed_tree())

    def test_written_trees(self):
        trees = sound_trees() + [cut_mirrors(wide(15)), mirror_tree(deep_left(30)), mirror_tree(deep_right(30))]
        for tree in trees + [chain_of_cuts(60)]:
            with self.subTest(tree=tree):
                self.assertEqual(read_tree(written_tree(tree)), tree)

    def test_kinds_of_the_answer(self):
        tree = read_tree(MIXED)
        self.assertIs(type(tree), tuple)
        self.assertIs(type(tree[0]), list)
        rule = tree[1]
        while rule[0] != "link":
            self.assertIs(type(rule), tuple)
            rule = rule[-1]
        self.assertIs(type(rule), tuple)

    def test_loosely(self):
        for tree in sound_trees():
            for text in loosened(written_tree(tree)):
                with self.subTest(text=text):
                    self.assertEqual(read_tree(text), tree)
        self.assertEqual(read_tree("\n knot  0 +a \n\nknot 1   -a\n  \n  tree   link  0   1  \n\n  \n"), read_tree(LINKED))
        self.assertEqual(read_tree(LINKED + "\n" * (6000 - len(LINKED))), read_tree(LINKED))


class BadTexts(unittest.TestCase):
    def refuse(self, *texts):
        for text in texts:
            with self.subTest(text=text):
                refused(self, BadText, read_tree, text)

    def test_no_tree_line(self):
        self.refuse("", " ", "\n", "\n  \n", "knot 0 +a\n", WIRE, MIXED.split("tree", maxsplit=1)[0])

    def test_a_word_too_few(self):
        self.refuse(WIRE + "tree", WIRE + "tree link", WIRE + "tree link 0", WIRE + "tree either", "tree")
        self.refuse(WIRE + "tree either 2", WIRE + "tree either 2 link 0", WIRE + "tree both", WIRE + "tree both 2")
        self.refuse(WIRE + "tree both 2 link 0 1", WIRE + "tree both 2 link 0 1 link 0", WIRE + "tree cut 0 1")
        self.refuse(WIRE + "tree cut 0 1 link 0 1", WIRE + "tree cut 0 link 0 1 link 0 1", WIRE + "tree cut 0")
        self.refuse(WIRE + "tree 0 1", WIRE + "link 0 1", WIRE + "tree both link 0 1 link 0 1")
        for text in (LINKED, CLOSED, BESIDE, MIXED):
            knots, words = text.split("tree ")
            words = words.split()
            for at in range(len(words)):
                self.refuse(knots + "tree " + " ".join(words[:at] + words[at + 1:]))

    def test_a_word_too_many(self):
        for text in (LINKED, CLOSED, BESIDE, MIXED):
            knots, words = text.split("tree ")
            words = words.split()
            for at in range(len(words) + 1):
                for word in ("0", "link", "tree", "knot", "gone", "x"):
                    self.refuse(knots + "tree " + " ".join(words[:at] + [word] + words[at:]))

    def test_two_rules(self):
        self.refuse(LINKED[:-1] + " link 0 1\n", CLOSED[:-1] + " either 2 link 0 1\n", BESIDE[:-1] + " link 0 1\n")

    def test_two_tree_lines(self):
        self.refuse(LINKED + "tree link 0 1\n", "tree link 0 1\n" + LINKED, LINKED + "tree\n", "tree\n" + LINKED)

    def test_a_line_behind_the_tree_line(self):
        self.refuse(LINKED + "knot 2 gone\n", LINKED + "x", LINKED + "  0", "tree link 0 1\n" + WIRE)
        self.refuse("knot 0 +a\ntree link 0 1\nknot 1 -a\n")

    def test_link_or_cut_lines(self):
        for line in ("link 0 1\n", "cut 0 1\n"):
            self.refuse(WIRE + line, WIRE + line + "tree link 0 1\n", LINKED + line, line + LINKED)

    def test_words_on_lines_of_their_own(self):
        self.refuse(WIRE + "tree\nlink 0 1\n", BESIDE.replace(" link 2", "\nlink 2"), LINKED.replace("\n", " "))

    def test_another_word(self):
        for word in ("Tree", "trees", "rule", "tre", "web", "#", "knot"):
            self.refuse(LINKED.replace("tree", word))
        for word in ("Link", "links", "lin", "cuts", "plain", "gone", "knot", "tree", "0", "+a", "(link", "par"):
            self.refuse(LINKED.replace("link", word), BESIDE.replace("link", word), CLOSED.replace("link", word))
        for word in ("Either", "neither", "both", "cut", "link", "eithe"):
            self.refuse(WIRE + f"knot 2 either 1 0\ntree {word} 2 link 0 1\n")
        self.refuse(LINKED.replace("tree link", "treelink"), LINKED.replace("link 0", "link0"))

    def test_numbers(self):
        for number in BAD_NUMBERS:
            self.refuse(WIRE + f"tree link 0 {number}", WIRE + f"tree link {number} 1")
            self.refuse(WIRE + f"tree either {number} link 0 1", WIRE + f"tree both {number} link 0 1 link 0 1")
            self.refuse(WIRE + f"tree cut {number} 1 link 0 1 link 0 1", WIRE + f"tree cut 0 {number} link 0 1 link 0 1")
            self.refuse(LINKED.replace("knot 1", f"knot {number}"))
            self.refuse(CLOSED.replace("either 1 0", f"either {number} 0"))

    def test_knot_lines(self):
        self.refuse(LINKED.replace("knot 1", "knot 2"), LINKED.replace("knot 0", "knot 1"), LINKED.replace("+a", "a"))
        self.refuse(LINKED.replace("+a", "+"), LINKED.replace("-a", "-abcdefghi"), LINKED.replace("-a", "-A"))
        self.refuse(LINKED.replace("+a", "+a 0"), LINKED.replace("knot 1 -a", "knot 1"), LINKED.replace("knot", "knots"))
        self.refuse(CLOSED.replace("either 1 0", "either 1"), CLOSED.replace("either 1 0", "pair 1 0"))

    def test_whatever_else_is_wrong(self):
        self.refuse("tree link 1 0 link 0 1", "tree link 00 1", "knot 0 both 7 7\ntree link 0", "knot 0 gone\ntree")
        self.refuse("knot 0 gone\ntree link 9 9 9", "knot 1 +a\ntree link 5 5", "knot 0 +A\ntree cut 0 0 link 1 1 link 1 1")


class RulesWithinOneAnother(unittest.TestCase):
    def test_a_hundred_and_fifty_are_read(self):
        for count in (1, 2, 149, 150):
            tree = chain_of_cuts(count)
            self.assertEqual(read_tree(written_tree(tree)), tree)

    def test_a_hundred_and_fifty_are_no_fault_of_the_text(self):
        knots = WIRE + "knot 2 either 0 1\n"
        self.assertEqual(read_tree(knots + either_line(2))[1], ("either", 2, ("link", 0, 1)))
        for count in (3, 149, 150):
            for line in (either_line(count), right_line(count), left_line(count), right_line(count, "cut 0 1")):
                refused(self, BadTree, read_tree, knots + line)
                refused(self, BadTree, read_tree, line)

    def test_more_are_refused(self):
        knots = WIRE + "knot 2 either 0 1\n"
        refused(self, BadText, read_tree, written_tree(chain_of_cuts(151)))
        for count in (151, 152, 200, 300, 400):
            for line in (either_line(count), right_line(count), left_line(count), right_line(count, "cut 0 1")):
                refused(self, BadText, read_tree, knots + line)
                refused(self, BadText, read_tree, line)

    def test_a_text_full_of_rules(self):
        for text in ("tree " + "either 0 " * 660, "tree " + "both 0 " * 850, "tree " + "cut 0 0 " * 740):
            refused(self, BadText, read_tree, text)
            refused(self, BadText, read_tree, text + "link 0 0")

    def test_many_rules_side_by_side_are_read(self):
        tree = cut_mirrors(wide(15))
        self.assertEqual(read_tree(written_tree(tree)), tree)
        line = "link 0 1"
        for _ in range(7):
            line = f"both 2 {line} {line}"
        refused(self, BadTree, read_tree, f"{WIRE}knot 2 both 0 1\ntree {line}")


class BadTrees(unittest.TestCase):
    def refuse(self, *texts):
        for text in texts:
            with self.subTest(text=text):
                refused(self, BadTree, read_tree, text)

    def test_a_tree_line_alone(self):
        self.refuse("tree link 0 1\n", "tree either 2 link 0 1", "\n tree cut 0 0 link 1 1 link 2 2 \n")
        self.refuse("tree both 0 link 1 2 link 3 4\n")

    def test_knots_that_are_not_sound(self):
        self.refuse("knot 0 gone\ntree link 0 1\n", CLOSED.replace("either 1 0", "either 1 1"))
        self.refuse(CLOSED.replace("either 1 0", "either 1 2"), CLOSED.replace("either 1 0", "either 1 9999"))

    def test_rules_that_do_not_fit(self):
        self.refuse(WIRE + "tree link 1 0\n", WIRE + "tree link 0 9999\n", WIRE + "tree link 0 0\n")
        self.refuse(LINKED.replace("-a", "-b"), LINKED.replace("-a", "+a"), LINKED.replace("-a", "gone"))
        self.refuse(CLOSED.replace("tree either 2 link", "tree link"), CLOSED.replace("tree either 2", "tree either 1"))
        self.refuse(CLOSED.replace("knot 2 either", "knot 2 both"), BESIDE.replace("knot 4 both", "knot 4 either"))
        self.refuse(BESIDE.replace("link 0 1 link 2 3", "link 2 3 link 0 1"), BESIDE.replace("link 2 3", "link 0 1"))
        self.refuse(MIXED.replace("cut 6 11", "cut 11 6"), MIXED.replace("cut 6 11", "cut 6 12"))
        self.refuse(LINKED.replace("tree", "knot 2 +b\ntree"))


class BesidePatterns(unittest.TestCase):
    """Each text that differs by one sign is refused with BadText just where the patterns of point 35 don't fit."""

    def check(self, text):
        try:
            tree = read_tree(text)
        except BadText:
            self.assertFalse(well_written(text), text)
        except BadTree:
            self.assertTrue(well_written(text), text)
        else:
            self.assertTrue(well_written(text), text)
            self.assertIs(checked_tree(tree), True)
            self.assertEqual(written_tree(tree).split(), text.split())

    def test_one_sign_less(self):
        for text in (LINKED, CLOSED, BESIDE, MIXED):
            for at in range(len(text)):
                self.check(text[:at] + text[at + 1:])

    def test_one_sign_more_or_another(self):
        for text in (CLOSED, BESIDE, MIXED):
            for at in range(len(text) + 1):
                for sign in "0 1a+-\nk~":
                    self.check(text[:at] + sign + text[at:])
                    self.check(text[:at] + sign + text[at + 1:])

    def test_two_words_exchanged(self):
        for text in (BESIDE, MIXED):
            knots, words = text.split("tree ")
            words = words.split()
            for at in range(len(words)):
                for other in range(at):
                    mixed = list(words)
                    mixed[at], mixed[other] = words[other], words[at]
                    self.check(knots + "tree " + " ".join(mixed))


class AskersOwn(unittest.TestCase):
    def test_what_is_handed_in_stays(self):
        for tree in sound_trees():
            unchanged(self, written_tree, tree)

    def test_told_knots_are_a_new_list(self):
        first = read_tree(LINKED)
        first[0].clear()
        self.assertEqual(read_tree(LINKED), ([A, NOT_A], ("link", 0, 1)))


if __name__ == "__main__":
    unittest.main()
