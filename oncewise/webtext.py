"""Webs as texts: written line by line, and read back."""

from oncewise.errors import BadText
from oncewise.webs import checked_web
from oncewise.words import is_leaf, is_name

MOST_FIGURES = 4

LEAF_SIGNS = {"plain": "+", "turned": "-"}

SIGN_KINDS = {"+": "plain", "-": "turned"}

KNOT_KINDS = ("both", "either")


def shown_knot(knot):
    if knot is None:
        return "gone"
    if is_leaf(knot):
        return LEAF_SIGNS[knot[0]] + knot[1]
    kind = knot[0]
    left = knot[1]
    right = knot[2]
    return f"{kind} {left} {right}"


def written_knots(knots):
    lines = []
    for place, knot in enumerate(knots):
        shown = shown_knot(knot)
        lines.append(f"knot {place} {shown}\n")
    return "".join(lines)


def written_pairs(word, pairs):
    return "".join([f"{word} {p} {q}\n" for p, q in pairs])


def written_web(web):
    return written_knots(web[0]) + written_pairs("link", web[1]) + written_pairs("cut", web[2])


# Parted at blanks alone: any other sign stays in its word, which is then a wrong one.
def words_in(line):
    return [word for word in line.split(" ") if word != ""]


def rows_in(text):
    rows = [words_in(line) for line in text.split("\n")]
    return [row for row in rows if row != []]


def rows_ahead(rows, word):
    count = 0
    while count < len(rows) and rows[count][0] == word:
        count += 1
    return rows[:count]


def is_number(word):
    if not (1 <= len(word) <= MOST_FIGURES and all(["0" <= sign <= "9" for sign in word])):
        return False
    return len(word) == 1 or word[0] != "0"


def number_from(word):
    if not is_number(word):
        raise BadText(f"a number is missing at {word!r}")
    return int(word)


def leaf_from(word):
    sign = word[0]
    name = word[1:]
    if sign not in SIGN_KINDS or not is_name(name):
        raise BadText(f"a knot is missing at {word!r}")
    return (SIGN_KINDS[sign], name)


def knot_from(words):
    if words == ["gone"]:
        return None
    if len(words) == 1:
        return leaf_from(words[0])
    if len(words) != 3 or words[0] not in KNOT_KINDS:
        raise BadText(f"no knot is written by {words!r}")
    return (words[0], number_from(words[1]), number_from(words[2]))


def knots_from(rows):
    knots = []
    for place, row in enumerate(rows):
        if len(row) < 2 or number_from(row[1]) != place:
            raise BadText(f"the line of knot {place} is missing at {row!r}")
        knots.append(knot_from(row[2:]))
    return knots


def pair_from(row):
    if len(row) != 3:
        raise BadText(f"two places are missing at {row!r}")
    return (number_from(row[1]), number_from(row[2]))


# The whole text is read ahead of the check: a text that is badly written is
# refused for that, whatever the web would be.
def read_web(text):
    rows = rows_in(text)
    knot_rows = rows_ahead(rows, "knot")
    rows = rows[len(knot_rows):]
    link_rows = rows_ahead(rows, "link")
    cut_rows = rows[len(link_rows):]
    if cut_rows != rows_ahead(cut_rows, "cut"):
        raise BadText("a line is none of a web, or is out of order")
    links = [pair_from(row) for row in link_rows]
    cuts = [pair_from(row) for row in cut_rows]
    web = (knots_from(knot_rows), links, cuts)
    checked_web(web)
    return web
