"""Words and rows of words as lines: shown, and read back."""

from oncewise.errors import NoWord
from oncewise.words import is_leaf, is_name, turned

MOST_DEPTH = 60

MARKS = "()&|-"

MIDDLE_SIGNS = {"both": "&", "either": "|"}

PAIR_KINDS = {"&": "both", "|": "either"}


class TokenWalk:
    def __init__(self, tokens):
        self.tokens = tokens
        self.at = 0

    # The line's end is told as an empty token: that is no mark and no NAME,
    # so whatever is still asked for there is found missing.
    def take(self):
        if self.at == len(self.tokens):
            return ""
        token = self.tokens[self.at]
        self.at += 1
        return token


def shown_word(word):
    if word[0] == "plain":
        return word[1]
    if is_leaf(word):
        return "-" + word[1]
    left = shown_word(word[1])
    sign = MIDDLE_SIGNS[word[0]]
    right = shown_word(word[2])
    return f"({left} {sign} {right})"


def shown_row(words):
    return ", ".join([shown_word(word) for word in words])


# Parted at blanks alone, so a line feed stays in its token, which is then no NAME.
def tokens_of(line):
    spaced = line
    for mark in MARKS:
        spaced = spaced.replace(mark, f" {mark} ")
    return [token for token in spaced.split(" ") if token != ""]


def word_from(walk, depth):
    token = walk.take()
    is_turned = False
    while token == "-":
        is_turned = not is_turned
        token = walk.take()
    if token == "(":
        word = pair_from(walk, depth)
    elif is_name(token):
        word = ("plain", token)
    else:
        raise NoWord(f"a word is missing at {token!r}")
    return turned(word) if is_turned else word


def pair_from(walk, depth):
    # Refused ahead of reading on: each bracket makes the word one deeper,
    # and many brackets in a line must not lead into a deep recursion.
    if depth == MOST_DEPTH:
        raise NoWord(f"the word is deeper than {MOST_DEPTH}")
    left = word_from(walk, depth + 1)
    sign = walk.take()
    if sign not in PAIR_KINDS:
        raise NoWord(f"a middle sign is missing at {sign!r}")
    right = word_from(walk, depth + 1)
    last = walk.take()
    if last != ")":
        raise NoWord(f"a closing bracket is missing at {last!r}")
    return (PAIR_KINDS[sign], left, right)


def read_word(line):
    walk = TokenWalk(tokens_of(line))
    word = word_from(walk, 1)
    behind = walk.take()
    if behind != "":
        raise NoWord(f"behind the word stands {behind!r}")
    return word


def read_row(line):
    return [read_word(part) for part in line.split(",")]
