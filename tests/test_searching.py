"""Points 81 and 82, and point 1 for oncewise.searching."""

import itertools
import math
import unittest

from oncewise.errors import TooMany
from oncewise.melting import melted
from oncewise.searching import searched, tries_due
from oncewise.shrinking import first_bad, right_web
from oncewise.switching import fault_by, first_bad_tried
from oncewise.trees import tree_ends
from oncewise.webs import checked_web, eithers_of, laid, word_at
from oncewise.words import size_of
from oncewise.wordtext import read_row
from samples import (
    A, Dice, NOT_A, all_choices, deep_left, deep_right, mirror_tree, refused, thrown_trees, unchanged, wide,
    words_to_depth,
)

GREAT = 10 ** 5000


def plain_leaves(word):
    return [word] if len(word) == 2 else plain_leaves(word[1]) + plain_leaves(word[2])


def boths_in(word):
    return 0 if len(word) == 2 else (word[0] == "both") + boths_in(word[1]) + boths_in(word[2])


def ways_to_link(words):
    """All ways to link, each as a tuple of links in rising order: each NAME's by itself, in each order."""
    knots = laid(words)[0]
    names = sorted({knot[1] for knot in knots if len(knot) == 2})
    by_name = []
    for name in names:
        plain = [place for place, knot in enumerate(knots) if knot == ("plain", name)]
        turned = [place for place, knot in enumerate(knots) if knot == ("turned", name)]
        if len(plain) != len(turned):
            return []
        by_name.append([list(zip(plain, order)) for order in itertools.permutations(turned)])
    ways = itertools.product(*by_name)
    return [tuple(sorted(tuple(sorted(pair)) for pairs in way for pair in pairs)) for way in ways]


def thrown_row(seed, counts, words):
    """A row of so many words whose leaves are as many as its both words ask for; counts by NAME."""
    dice = Dice(seed)
    row = [(kind, name) for name, count in counts.items() for kind in ("plain", "turned") for _ in range(count)]
    boths = len(row) // 2 - 1
    kinds = ["both"] * boths + ["either"] * (len(row) - words - boths)
    for kind in dice.shuffled(kinds):
        row.append((kind, dice.taken_from(row), dice.taken_from(row)))
    return dice.shuffled(row)


def thrown_rows(seeds):
    rows = []
    for seed in seeds:
        rows.append(thrown_row(seed, {"a": 1}, 1 + seed % 2))
        rows.append(thrown_row(seed, {"a": 2}, 1 + seed % 3))
        rows.append(thrown_row(seed, {"a": 1, "b": 1}, 1 + seed % 3))
        rows.append(thrown_row(seed, {"b": 1, "a": 2}, 1 + seed % 4))
        rows.append(thrown_row(seed, {"b": 2, "a": 2}, 1 + seed % 4))
        rows.append(thrown_row(seed, {"a": 3}, 1 + seed % 4))
        rows.append(thrown_row(seed, {"a": 3, "b": 2}, 1 + seed % 5))
    return rows


def rows_with_webs(seeds, sizes):
    """The words at the ends of trees without cuts."""
    rows = []
    for tree in thrown_trees(seeds, sizes):
        tree = melted(tree)
        rows.append([word_at(tree[0], place) for place in tree_ends(tree)])
    return rows


def factors(count):
    return 1 if count == 0 else count * factors(count - 1)


class TriesDue(unittest.TestCase):
    def check(self, line, told):
        self.assertEqual(unchanged(self, tries_due, read_row(line)), told)

    def test_one_word(self):
        self.check("(a | -a)", 1)
        self.check("(a & -a)", 1)
        self.check("((a & -b) | (b & -a))", 1)
        self.check("((a | a) & (-a | -a))", 2)
        self.check("a", 0)
        self.check("-a", 0)
        self.check("(a | a)", 0)

    def test_one_name(self):
        self.check("a, -a", 1)
        self.check("-a, a", 1)
        self.check("a, -a, a, -a", 2)
        self.check("(a & (a | -a)), a, (-a | -a)", 6)
        self.check("a, a, a, a, -a, -a, -a, -a", 24)

    def test_several_names(self):
        self.check("a, -a, b, -b", 1)
        self.check("(a & b), (-b | -a), c, -c", 1)
        self.check("a, a, b, b, -a, -a, -b, -b", 4)
        self.check("a, a, b, b, b, c, -a, -b, -c, -a, -b, -b", 12)
        self.check("a, a, aa, aa, aa, -aa, -aa, -aa, -a, -a", 12)

    def test_uneven_names(self):
        for line in ("a, b", "a, a, -a", "a, -a, -a", "a, -b", "a, -a, b", "(a & -a), (b | -c)", "a, -aa",
                     "a, a, -a, b, -b", "a, -a, b, -b, -c"):
            self.check(line, 0)

    def test_names_of_many_leaves(self):
        for count in (5, 6, 10, 29, 30, 60):
            row = [A] * count + [NOT_A] * count
            self.assertEqual(tries_due(row), math.factorial(count))
            self.assertEqual(tries_due(row + [NOT_A]), 0)
            self.assertEqual(tries_due(row + read_row("b, -b, b, -b")), 2 * math.factorial(count))

    def test_great_words(self):
        for word in (deep_left(60), deep_right(60, "either"), wide(60)):
            self.assertEqual(tries_due([word]), 0)
        tree = mirror_tree(deep_left(30))
        row = [word_at(tree[0], place) for place in tree_ends(tree)]
        self.assertEqual(tries_due(row), factors(29))

    def test_all_small_rows(self):
        words = words_to_depth(2)
        for row in [[word] for word in words_to_depth(3, (A, NOT_A))] + [list(two) for two in zip(words, words[::-1])]:
            self.assertEqual(tries_due(row), len(ways_to_link(row)))
        for row in thrown_rows(range(20)):
            self.assertEqual(tries_due(row), len(set(ways_to_link(row))))


class Names(unittest.TestCase):
    def check(self, line, name, *most):
        self.assertEqual(unchanged(self, searched, read_row(line), *most), ("names", name))

    def test_the_first_by_the_leaves(self):
        self.check("a", "a")
        self.check("-a", "a")
        self.check("(b & a)", "b")
        self.check("(a & -a), b", "b")
        self.check("a, c, -a, b", "c")
        self.check("(a | (c & -b)), -a, b", "c")
        self.check("(z & y), (x & -z)", "y")
        self.check("a, a, -a, b", "a")
        self.check("b, -b, -b, a", "b")
        self.check("a, -aa, -a", "aa")
        self.check("c, -c, (a & (b & -a)), d", "b")
        self.check("abcdefgh, -abcdefgh, -a", "a")

    def test_ahead_of_all_else(self):
        self.check("a, -a, -a", "a", 0)
        self.check("(a & -a), b", "b", -1)
        self.check("(a & a), (-a | -a), b", "b", -GREAT)
        self.check(", ".join(["a", "-a"] * 20) + ", b", "b")
        self.check(", ".join(["(a & a)"] * 19), "a", 1)

    def test_every_small_row(self):
        words = words_to_depth(2)
        for first, second in itertools.product(words, words[::5]):
            leaves = plain_leaves(first) + plain_leaves(second)
            uneven = [
                name for _, name in leaves
                if leaves.count(("plain", name)) != leaves.count(("turned", name))
            ]
            if uneven:
                self.assertEqual(searched([first, second], 0), ("names", uneven[0]))


class Count(unittest.TestCase):
    def check(self, line, leaves, boths, *most):
        self.assertEqual(unchanged(self, searched, read_row(line), *most), ("count", leaves, boths))

    def test_too_few_both_words(self):
        self.check("a, -a, b, -b", 4, 0)
        self.check("((a | -a) | (b | -b))", 4, 0)
        self.check("a, -a, (b & -b), c, -c, (c & -c)", 8, 2)

    def test_too_many_both_words(self):
        self.check("(a & -a)", 2, 1)
        self.check("((a & b) & (-a & -b))", 4, 3)
        self.check("((a & b) | (-a & -b))", 4, 2)

    def test_ahead_of_too_many(self):
        self.check("(a & -a)", 2, 1, 0)
        self.check("a, a, -a, -a", 4, 0, 1)
        self.check("a, a, -a, -a", 4, 0, -GREAT)
        self.check(", ".join(["a"] * 30 + ["-a"] * 30), 60, 0)
        self.check(", ".join(["(a & -a)"] * 30), 60, 30, 1000)

    def test_no_web_is_right_then(self):
        count = 0
        for word in words_to_depth(3, (A, NOT_A)):
            leaves, boths = len(plain_leaves(word)), boths_in(word)
            if ways_to_link([word]) and leaves != 2 * boths + 2:
                self.assertEqual(searched([word]), ("count", leaves, boths))
                webs = [(laid([word])[0], list(links), []) for links in ways_to_link([word])]
                self.assertFalse(any(right_web(web) for web in webs))
                count += 1
        self.assertGreater(count, 20)


class MostTries(unittest.TestCase):
    def row_of(self, count):
        """A row of which all ways to link are as many as 1 * 2 * .. * count, and most are right."""
        word = deep_right(1)
        for _ in range(count - 1):
            word = ("both", A, word)
        return [word] + [NOT_A] * count

    def test_just_below_and_just_at(self):
        for count, ways in ((1, 1), (2, 2), (3, 6), (4, 24), (5, 120), (6, 720)):
            row = self.row_of(count)
            self.assertEqual(tries_due(row), ways)
            refused(self, TooMany, searched, row, ways - 1)
            self.assertEqual(searched(row, ways)[0], "web")
            self.assertEqual(searched(row, 1000)[0], "web")

    def test_nought_and_below(self):
        for row in (self.row_of(1), self.row_of(3), read_row("(a | -a)"), thrown_row(1, {"a": 2}, 1)):
            for most in (0, -1, -1000, -GREAT):
                refused(self, TooMany, searched, row, most)

    def test_a_thousand(self):
        refused(self, TooMany, searched, self.row_of(7), 1000)
        row = thrown_row(3, {"a": 4, "b": 4, "c": 2}, 3)
        self.assertEqual(tries_due(row), 1152)
        refused(self, TooMany, searched, row, 1000)

    def test_rows_of_ways_without_number(self):
        for count in (20, 30):
            refused(self, TooMany, searched, self.row_of(count))
            refused(self, TooMany, searched, self.row_of(count), 1000)

    def test_left_out(self):
        self.assertEqual(searched(self.row_of(5))[0], "web")
        row = [("both", ("plain", "b"), self.row_of(5)[0])] + [NOT_A] * 5 + [("turned", "b")]
        self.assertEqual(tries_due(row), 120)
        self.assertEqual(searched(row)[0], "web")
        row = thrown_row(3, {"a": 3, "b": 3, "c": 2, "d": 2}, 4)
        self.assertEqual(tries_due(row), 144)
        refused(self, TooMany, searched, row)
        refused(self, TooMany, searched, self.row_of(6))

    def test_by_its_name(self):
        row = self.row_of(4)
        self.assertEqual(searched(row, most=24), searched(row, 24))
        self.assertEqual(searched(words=row, most=24)[0], "web")
        with self.assertRaises(TooMany):
            searched(row, most=23)
        with self.assertRaises(TooMany):
            searched(most=-1, words=row)


class Found(unittest.TestCase):
    def check(self, row, *most):
        told = unchanged(self, searched, row, *most)
        self.assertIs(type(told), tuple)
        self.assertEqual((len(told), told[0]), (2, "web"))
        web = told[1]
        self.assertIs(type(web), tuple)
        self.assertIs(checked_web(web), True)
        self.assertEqual(web[0], laid(row)[0])
        self.assertEqual(web[2], [])
        self.assertIs(right_web(web), True)
        if len(eithers_of(web)) < 8:
            self.assertTrue(all(fault_by(web, choices) is None for choices in all_choices(web)))
        return web

    def test_one_web_alone(self):
        self.assertEqual(self.check(read_row("a, -a"))[1], [(0, 1)])
        self.assertEqual(self.check(read_row("(-a | a)"))[1], [(0, 1)])
        self.assertEqual(self.check(read_row("(a & -b), (b | -a)"))[1], [(0, 4), (1, 3)])
        row = read_row("((a & -a) | (a | -a))")
        self.assertEqual(self.check(row)[1], [(0, 4), (1, 3)])

    def test_most_just_at_the_ways(self):
        self.check(read_row("a, -a"), 1)
        self.check(read_row("((a & -a) | (a | -a))"), 2)

    def test_rows_of_trees(self):
        count = 0
        for row in rows_with_webs(range(60), (8, 14, 20)):
            if tries_due(row) <= 120:
                self.check(row)
                count += 1
        self.assertGreater(count, 60)

    def test_rows_of_great_trees(self):
        count = 0
        for row in rows_with_webs(range(0, 60, 2), (30, 45)):
            if tries_due(row) <= 1000:
                self.check(row, 1000)
                count += 1
        self.assertGreater(count, 5)

    def test_many_names_of_one_link(self):
        names = [chr(97 + first) + chr(97 + second) for first in range(3) for second in range(10)]
        word = ("plain", names[0])
        for name in names[1:]:
            word = ("both", word, ("plain", name))
        row = [word] + [("turned", name) for name in names]
        self.assertEqual(size_of(word) + len(names), 89)
        self.check(row, 1)


class Tries(unittest.TestCase):
    def check(self, row, *most):
        told = unchanged(self, searched, row, *most)
        self.assertIs(type(told), tuple)
        self.assertEqual((len(told), told[0]), (2, "tries"))
        self.assertEqual(len(told[1]), tries_due(row))
        self.assertEqual(sorted(tuple(links) for links, _ in told[1]), sorted(ways_to_link(row)))
        knots = laid(row)[0]
        for pair in told[1]:
            self.assertEqual((type(pair), len(pair), type(pair[0]), type(pair[1])), (tuple, 2, list, list))
            web = (knots, pair[0], [])
            self.assertIs(checked_web(web), True)
            few = len(eithers_of(web)) <= 6
            self.assertEqual(pair[1], first_bad_tried(web) if few else first_bad(web))
            self.assertIsNotNone(fault_by(web, pair[1]))
        return told[1]

    def test_one_try(self):
        row = read_row("((a & -a) | (b | -b))")
        self.assertEqual(self.check(row), [([(0, 1), (3, 4)], [0, 0])])
        self.assertEqual(self.check(row, 1), [([(0, 1), (3, 4)], [0, 0])])

    def test_without_an_either_word(self):
        self.assertEqual(self.check(read_row("(a & -a), b, -b")), [([(0, 1), (3, 4)], [])])

    def test_the_first_switching_at_fault(self):
        row = read_row("((a | b) & -b), -a")
        told = self.check(row)
        self.assertEqual(told, [([(0, 5), (1, 3)], [1])])

    def test_two_tries(self):
        row = read_row("((a & -a) & (a & -a)), b, -b, c, -c, d, -d")
        self.assertEqual(searched(row)[0], "count")
        row = read_row("((a & -a) & (a & -a)), b, -b, c, -c")
        told = self.check(row)
        self.assertEqual(sorted(links[:2] for links, _ in told), [[(0, 1), (3, 4)], [(0, 4), (1, 3)]])
        self.check(row, 2)
        refused(self, TooMany, searched, row, 1)

    def test_many_tries(self):
        row = read_row("((a & -a) & ((a & -a) & (a & -a))), (a & -a), (a & -a), b, -b, c, -c, d, -d, e, -e, f, -f")
        self.assertEqual(searched(row), ("count", 20, 7))
        row = read_row("((a & -a) & ((a & -a) & (a & -a))), (a & -a), (a & -a), b, -b, c, -c, d, -d")
        self.assertEqual(len(self.check(row)), 120)
        refused(self, TooMany, searched, row, 119)

    def test_great_rows(self):
        counts = {"a": 4}
        for number in range(26):
            counts["b" + chr(97 + number)] = 1
        row = thrown_row(5, counts, 2)
        self.assertEqual(sum(size_of(word) for word in row), 118)
        self.assertEqual(len(self.check(row)), 24)

    def test_told_lists_are_new_ones(self):
        row = read_row("((a & -a) & (a & -a)), b, -b, c, -c")
        kept = searched(row)
        told = searched(row)
        for links, choices in told[1]:
            links.clear()
            choices.append(7)
        told[1].clear()
        self.assertEqual(searched(row), kept)


class WordForWord(unittest.TestCase):
    """Every answer beside all ways to link, each with all its switchings."""

    def check(self, row):
        told = searched(row, 1000)
        knots = laid(row)[0]
        webs = [(knots, list(links), []) for links in ways_to_link(row)]
        right = [web for web in webs if first_bad_tried(web) is None]
        if told[0] == "web":
            self.assertIn(told[1], right)
        elif told[0] == "tries":
            self.assertEqual(right, [])
            expected = sorted((web[1], first_bad_tried(web)) for web in webs)
            self.assertEqual(sorted(told[1]), expected)
        else:
            self.assertEqual(right, [])
            self.assertIn(told[0], ("names", "count"))
        return told[0]

    def test_thrown_rows(self):
        kinds = {"web": 0, "tries": 0}
        for row in thrown_rows(range(40)):
            kinds[self.check(row)] += 1
        self.assertTrue(all(count > 40 for count in kinds.values()), kinds)

    def test_all_small_words(self):
        kinds = {"web": 0, "tries": 0, "count": 0, "names": 0}
        for word in words_to_depth(3, (A, NOT_A)):
            kinds[self.check([word])] += 1
        words = words_to_depth(2)
        for first, second in itertools.product(words, words):
            kinds[self.check([first, second])] += 1
        self.assertTrue(all(count > 2 for count in kinds.values()), kinds)


if __name__ == "__main__":
    unittest.main()
