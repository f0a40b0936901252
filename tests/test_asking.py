"""Points 91 to 93."""

import unittest

from oncewise.asking import freed, judged, sought, webbed
from oncewise.errors import BadText, BadTree, BadWeb, NoWord, TooMany
from oncewise.melting import melted
from oncewise.searching import searched, tries_due
from oncewise.shrinking import first_bad, right_web
from oncewise.switching import fault_by
from oncewise.trees import checked_tree, web_of
from oncewise.treetext import read_tree, written_tree
from oncewise.wayback import tree_of
from oncewise.webs import checked_web, ends_of, laid, word_at
from oncewise.webtext import read_web, written_web
from oncewise.wordtext import read_row, shown_row
from samples import (
    apart, bad_at, beside, chain_of_cuts, cut_mirrors, cut_ring, deep_left_line, loosened, many_webs, mixed_tree,
    refused, shifted_web, sound_trees, thrown_trees, thrown_webs, two_wires, wide, wire,
)

ONE_LINK = "knot 0 +a\nknot 1 -a\n"

CHAIN = "knot 0 +a\nknot 1 -a\nknot 2 +a\nknot 3 -a\n"


def lines_of(case, text):
    """The lines of a text, each of which must be ended by a line feed."""
    case.assertEqual(text[-1], "\n")
    lines = text[:-1].split("\n")
    case.assertNotIn("", lines)
    for line in lines:
        case.assertEqual(line, " ".join(line.split()))
    return lines


class JudgedRight(unittest.TestCase):
    def check(self, text):
        web = read_web(text)
        told = judged(text)
        self.assertIs(type(told), str)
        lines = lines_of(self, told)
        self.assertEqual(lines[0], "right")
        self.assertEqual(lines[-1].split(" ")[0], "tree")
        rest = "\n".join(lines[1:]) + "\n"
        self.assertEqual(web_of(read_tree(rest)), web)
        self.assertEqual(rest, written_tree(tree_of(web)))

    def test_a_link(self):
        self.assertEqual(judged(ONE_LINK + "link 0 1\n"), "right\n" + ONE_LINK + "tree link 0 1\n")

    def test_an_either(self):
        text = ONE_LINK + "knot 2 either 0 1\n"
        self.assertEqual(judged(text + "link 0 1\n"), "right\n" + text + "tree either 2 link 0 1\n")

    def test_a_cut(self):
        told = judged(CHAIN + "link 0 1\nlink 2 3\ncut 1 2\n")
        self.assertEqual(told, "right\n" + CHAIN + "tree cut 1 2 link 0 1 link 2 3\n")
        told = judged(CHAIN + "link 0 1\nlink 2 3\ncut 2 1\n")
        self.assertEqual(told, "right\n" + CHAIN + "tree cut 2 1 link 2 3 link 0 1\n")

    def test_gone_places(self):
        text = "knot 0 gone\nknot 1 -a\nknot 2 gone\nknot 3 +a\nknot 4 gone\n"
        self.assertEqual(judged(text + "link 1 3\n"), "right\n" + text + "tree link 1 3\n")

    def test_read_as_read_web_does(self):
        text = ONE_LINK + "knot 2 either 1 0\nlink 0 1\n"
        for other in loosened(text):
            self.assertEqual(judged(other), judged(text))

    def test_many_webs(self):
        count = 0
        for web in many_webs() + [web_of(tree) for tree in thrown_trees(range(10), (12, 40))]:
            if right_web(web):
                self.check(written_web(web))
                self.check(written_web(shifted_web(web)))
                count += 1
        self.assertGreater(count, 50)

    def test_great_webs(self):
        for tree in thrown_trees(range(4), (120,)) + [chain_of_cuts(60), cut_mirrors(wide(15))]:
            self.check(written_web(web_of(tree)))


class JudgedWrong(unittest.TestCase):
    def check(self, web):
        told = judged(written_web(web))
        choices = first_bad(web)
        kind, numbers = fault_by(web, choices)
        lines = lines_of(self, told)
        self.assertEqual([line.split(" ")[0] for line in lines], ["wrong", "choices", kind])
        self.assertEqual([int(word) for word in lines[1].split(" ")[1:]], choices)
        self.assertEqual([int(word) for word in lines[2].split(" ")[1:]], numbers)
        self.assertEqual(told.count("\n"), 3)

    def test_a_ring_without_an_either_knot(self):
        text = ONE_LINK + "knot 2 both 0 1\nlink 0 1\n"
        self.assertEqual(judged(text), "wrong\nchoices\nring 0 1 2\n")
        self.assertEqual(judged(ONE_LINK + "link 0 1\ncut 0 1\n"), "wrong\nchoices\nring 0 1\n")
        self.assertEqual(judged(ONE_LINK + "link 0 1\ncut 1 0\n"), "wrong\nchoices\nring 0 1\n")
        self.assertEqual(judged(written_web(cut_ring())), "wrong\nchoices\nring 0 1 2 3\n")

    def test_parts_without_an_either_knot(self):
        self.assertEqual(judged(written_web(two_wires())), "wrong\nchoices\nparts 0 1\n")
        text = "knot 0 gone\nknot 1 +a\nknot 2 +b\nknot 3 -b\nknot 4 -a\nlink 1 4\nlink 2 3\n"
        self.assertEqual(judged(text), "wrong\nchoices\nparts 1 4\n")

    def test_either_knots(self):
        self.assertEqual(judged(written_web(apart())), "wrong\nchoices 0\nparts 0 2 3\n")
        text = "knot 0 +a\nknot 1 -a\nknot 2 +b\nknot 3 -b\nknot 4 either 0 2\nknot 5 both 4 3\nlink 0 1\nlink 2 3\n"
        self.assertEqual(judged(text), "wrong\nchoices 1\nring 1 2 3 4\n")

    def test_many_choices(self):
        for choices in ([1, 0], [0, 1, 1], [1, 1, 0, 1], [1, 0] * 8 + [1]):
            told = judged(written_web(bad_at(choices)))
            self.assertEqual(told.split("\n")[1], " ".join(["choices"] + [str(choice) for choice in choices]))
            self.assertEqual(told.split("\n")[2].split(" ")[0], "ring")

    def test_numbers_of_several_figures(self):
        web = wire()
        for _ in range(5):
            web = beside(web, web)
        self.assertEqual(judged(written_web(web)), "wrong\nchoices\nparts 0 1\n")
        web = beside(web_of(chain_of_cuts(8)), wire())
        places = " ".join(str(place) for place in range(16))
        self.assertEqual(judged(written_web(web)), f"wrong\nchoices\nparts {places}\n")

    def test_many_webs(self):
        kinds = {"ring": 0, "parts": 0}
        for web in many_webs() + thrown_webs(range(10), (12, 30, 60)):
            choices = first_bad(web)
            if choices is not None:
                self.check(web)
                kinds[fault_by(web, choices)[0]] += 1
        self.assertTrue(all(count > 3 for count in kinds.values()), kinds)

    def test_great_webs(self):
        for web in thrown_webs(range(4), (120,)):
            if not right_web(web):
                self.check(web)


class JudgedNot(unittest.TestCase):
    def test_bad_texts(self):
        for text in ("knot 0 +a\nknot 1 -a\nlink 0\n", "knot 0 a\n", "a, -a", "knot 1 +a\n", "link 0 1\nknot 0 +a\n",
                     ONE_LINK + "tree link 0 1\n", ONE_LINK + "link 00 1\n", "right\n", "knot 0 +a\ncut 0 0\nlink 0 1"):
            refused(self, BadText, judged, text)

    def test_bad_webs(self):
        for text in ("", "\n \n", "link 0 1\n", ONE_LINK, ONE_LINK + "link 1 0\n", "knot 0 +a\n", "knot 0 gone\n",
                     ONE_LINK + "link 0 1\nlink 0 1\n", ONE_LINK + "link 0 1\ncut 0 0\n", ONE_LINK + "link 0 9999\n",
                     ONE_LINK + "knot 2 both 0 0\nlink 0 1\n", "knot 0 +a\nknot 1 -b\nlink 0 1\n"):
            refused(self, BadWeb, judged, text)


class Webbed(unittest.TestCase):
    def test_a_link(self):
        self.assertEqual(webbed(ONE_LINK + "tree link 0 1\n"), ONE_LINK + "link 0 1\n")

    def test_an_either(self):
        text = ONE_LINK + "knot 2 either 0 1\n"
        self.assertEqual(webbed(text + "tree either 2 link 0 1\n"), text + "link 0 1\n")

    def test_a_both(self):
        text = "knot 0 +a\nknot 1 -a\nknot 2 gone\nknot 3 +b\nknot 4 -b\nknot 5 both 3 0\n"
        told = webbed(text + "tree both 5 link 3 4 link 0 1")
        self.assertEqual(told, text + "link 0 1\nlink 3 4\n")

    def test_cuts(self):
        told = webbed(CHAIN + "tree cut 2 1 link 2 3 link 0 1\n")
        self.assertEqual(told, CHAIN + "link 0 1\nlink 2 3\ncut 2 1\n")

    def test_read_as_read_tree_does(self):
        text = CHAIN + "tree cut 2 1 link 2 3 link 0 1\n"
        for other in loosened(text):
            self.assertEqual(webbed(other), webbed(text))

    def test_many_trees(self):
        for tree in sound_trees() + [mixed_tree()] + thrown_trees(range(20), (12, 40, 120)):
            told = webbed(written_tree(tree))
            lines_of(self, told)
            self.assertEqual(told, written_web(web_of(tree)))
            self.assertEqual(read_web(told), web_of(tree))

    def test_refused(self):
        for text in ("", ONE_LINK, ONE_LINK + "link 0 1\n", ONE_LINK + "tree link 0\n", ONE_LINK + "tree\n",
                     ONE_LINK + "tree link 0 1 link 0 1\n", "tree link 0 1\n" + ONE_LINK):
            refused(self, BadText, webbed, text)
        for text in ("tree link 0 1\n", ONE_LINK + "tree link 1 0\n", ONE_LINK + "tree either 0 link 0 1\n",
                     CHAIN + "tree link 0 1\n", CHAIN + "tree cut 0 2 link 0 1 link 2 3\n",
                     "knot 0 gone\ntree link 0 1"):
            refused(self, BadTree, webbed, text)


class Freed(unittest.TestCase):
    def test_without_cuts(self):
        text = ONE_LINK + "knot 2 either 0 1\ntree either 2 link 0 1\n"
        self.assertEqual(freed(text), text)
        for other in loosened(text):
            self.assertEqual(freed(other), text)

    def test_a_cut_of_leaves(self):
        told = freed(CHAIN + "tree cut 1 2 link 0 1 link 2 3\n")
        self.assertEqual(told, "knot 0 +a\nknot 1 gone\nknot 2 gone\nknot 3 -a\ntree link 0 3\n")
        told = freed(CHAIN + "tree cut 3 0 link 2 3 link 0 1\n")
        self.assertEqual(told, "knot 0 gone\nknot 1 -a\nknot 2 +a\nknot 3 gone\ntree link 1 2\n")

    def test_many_trees(self):
        for tree in sound_trees() + [mixed_tree()] + thrown_trees(range(20), (12, 40, 120)):
            told = freed(written_tree(tree))
            lines_of(self, told)
            self.assertEqual(told, written_tree(melted(tree)))
            other = read_tree(told)
            self.assertIs(checked_tree(other), True)
            self.assertNotIn(" cut ", told)
            self.assertEqual(ends_of(web_of(other)), ends_of(web_of(tree)))

    def test_refused(self):
        for text in ("", ONE_LINK, ONE_LINK + "link 0 1\n", ONE_LINK + "tree cut 0 1 link 0 1\n",
                     ONE_LINK + "tree link 0 01\n"):
            refused(self, BadText, freed, text)
        for text in ("tree link 0 1\n", ONE_LINK + "tree link 1 0\n", CHAIN + "tree link 0 1\n",
                     CHAIN + "tree cut 1 2 link 2 3 link 0 1\n"):
            refused(self, BadTree, freed, text)


class Sought(unittest.TestCase):
    def test_found(self):
        self.assertEqual(sought("a, -a"), "found\n" + ONE_LINK + "link 0 1\n")
        self.assertEqual(sought("-(a & -a)"), "found\nknot 0 -a\nknot 1 +a\nknot 2 either 0 1\nlink 0 1\n")
        knots = "knot 0 +a\nknot 1 -b\nknot 2 both 0 1\nknot 3 +b\nknot 4 -a\nknot 5 either 3 4\n"
        self.assertEqual(sought("(a&-b),  (b | -a )"), "found\n" + knots + "link 0 4\nlink 1 3\n")

    def test_names(self):
        self.assertEqual(sought("a"), "names a\n")
        self.assertEqual(sought("-abcdefgh"), "names abcdefgh\n")
        self.assertEqual(sought("a, c, -a, b"), "names c\n")
        self.assertEqual(sought("a, b, -a", -1), "names b\n")

    def test_count(self):
        self.assertEqual(sought("(a & -a)"), "count 2 1\n")
        self.assertEqual(sought("a, -a, b, -b"), "count 4 0\n")
        self.assertEqual(sought(", ".join(["(a & -a)"] * 12), 0), "count 24 12\n")

    def test_tries(self):
        self.assertEqual(sought("(a & -a), b, -b"), "tries 1\n")
        self.assertEqual(sought("((a & -a) & (a & -a)), b, -b, c, -c"), "tries 2\n")
        row = "((a & -a) & ((a & -a) & (a & -a))), (a & -a), (a & -a), b, -b, c, -c, d, -d"
        self.assertEqual(sought(row), "tries 120\n")

    def test_most(self):
        row = "((a & -a) & (a & -a)), b, -b, c, -c"
        self.assertEqual(sought(row, 2), "tries 2\n")
        self.assertEqual(sought(row, most=2), "tries 2\n")
        self.assertEqual(sought(most=1000, text=row), "tries 2\n")
        for most in (1, 0, -1, -10 ** 5000):
            refused(self, TooMany, sought, row, most)
            with self.assertRaises(TooMany):
                sought(row, most=most)

    def test_most_left_out(self):
        row = "(a & (a & (a & (a & a)))), -a, -a, -a, -a, -a"
        self.assertEqual(sought(row).split("\n")[0], "found")
        refused(self, TooMany, sought, row, 119)
        row = "(a & (a & (a & (a & (a & a))))), -a, -a, -a, -a, -a, -a"
        refused(self, TooMany, sought, row)
        self.assertEqual(sought(row, 720).split("\n")[0], "found")

    def test_no_word(self):
        for text in ("", " ", "a,", ",a", "a, -a\n", "\na", "a -a", "(a | b", "abcdefghi", "A, -A", "a, -", "names a",
                     "a;-a", "+a, -a", "(a & b & c)", "a, " + deep_left_line(61)):
            refused(self, NoWord, sought, text)
            refused(self, NoWord, sought, text, 0)

    def test_word_for_word(self):
        firsts = {"found": 0, "names": 0, "count": 0, "tries": 0}
        for row in some_rows():
            told = sought(shown_row(row), 1000)
            answer = searched(row, 1000)
            lines = lines_of(self, told)
            first = lines[0].split(" ")[0]
            firsts[first] += 1
            if first == "found":
                self.assertEqual(lines[0], "found")
                web = read_web(told[len("found\n"):])
                self.assertIs(checked_web(web), True)
                self.assertEqual((web[0], web[2]), (laid(row)[0], []))
                self.assertIs(right_web(web), True)
                self.assertEqual(answer[0], "web")
            else:
                self.assertEqual(len(lines), 1)
                self.assertEqual(answer[0], first)
                numbers = [str(tries_due(row))] if first == "tries" else [str(part) for part in answer[1:]]
                self.assertEqual(lines[0].split(" ")[1:], numbers)
        self.assertTrue(all(count > 3 for count in firsts.values()), firsts)


def some_rows():
    """The words at the ends of webs, alone and with others, as far as they are not linked in too many ways."""
    rows = [read_row("(a & -a), b, -b"), read_row("((a | b) & -b), -a"), read_row("((a & -a) | (b | -b))")]
    rows += [read_row("((a & -a) & (a & -a)), b, -b, c, -c"), read_row("a, c, -a, b"), read_row("(a & -a), b")]
    for number, web in enumerate(many_webs()):
        row = [word_at(web[0], place) for place in ends_of(web)]
        if row:
            rows += [row, row[:1] if number % 2 else row + row]
    return [row for row in rows if tries_due(row) <= 120]


if __name__ == "__main__":
    unittest.main()
