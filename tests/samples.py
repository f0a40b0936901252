"""Words and webs that several test files use."""

import copy

A = ("plain", "a")
B = ("plain", "b")
C = ("plain", "c")
NOT_A = ("turned", "a")
NOT_B = ("turned", "b")
NOT_C = ("turned", "c")


def deep_left(depth, kind="both"):
    word = A
    for _ in range(depth - 1):
        word = (kind, word, B)
    return word


def deep_right(depth, kind="both"):
    word = A
    for _ in range(depth - 1):
        word = (kind, B, word)
    return word


def deep_left_line(depth, sign="&"):
    return "(" * (depth - 1) + "a" + f" {sign} b)" * (depth - 1)


def deep_right_line(depth, sign="&"):
    return f"(b {sign} " * (depth - 1) + "a" + ")" * (depth - 1)


def wide(leaves):
    """A word of so many leaves, no deeper than it must be."""
    if leaves == 1:
        return A
    kind = "both" if leaves % 2 == 0 else "either"
    return (kind, wide(leaves // 2), wide(leaves - leaves // 2))


def words_to_depth(depth, leaves=(A, NOT_A, B, NOT_B)):
    """All words of at most that depth over those leaves."""
    words = list(leaves)
    for _ in range(depth - 1):
        words = list(leaves) + [
            (kind, left, right)
            for kind in ("both", "either")
            for left in words
            for right in words
        ]
    return words


def wire():
    return ([A, NOT_A], [(0, 1)], [])


def two_wires():
    """Two links, of two NAMEs, all four leaves ends."""
    return ([A, NOT_A, B, NOT_B], [(0, 1), (2, 3)], [])


def cut_leaves():
    """A leaf of one link in a cut with a leaf of another."""
    return ([A, NOT_A, A, NOT_A], [(0, 1), (2, 3)], [(1, 2)])


def cut_pairs():
    """A both and an either knot in a cut, the upper place first, and a gone place."""
    knots = [
        A, B, ("both", 0, 1),
        None,
        NOT_A, NOT_B, ("either", 4, 5),
        NOT_A, NOT_B, ("either", 7, 8),
        A, B, ("both", 10, 11),
    ]
    return (knots, [(0, 7), (1, 8), (4, 10), (5, 11)], [(6, 2)])


def two_cuts():
    """Two cuts of leaves in a line of links."""
    knots = [A, NOT_A, A, NOT_A, A, NOT_A]
    return (knots, [(0, 1), (2, 3), (4, 5)], [(1, 2), (3, 4)])


def sound_webs():
    return [wire(), two_wires(), cut_leaves(), cut_pairs(), two_cuts()]


def unchanged(case, call, *handed):
    """The answer of a call, which must leave what it was handed as it was."""
    before = copy.deepcopy(handed)
    answer = call(*handed)
    case.assertEqual(handed, before)
    return answer


def refused(case, error, call, *handed):
    """A call must be refused with just this class and leave what it was handed."""
    before = copy.deepcopy(handed)
    with case.assertRaises(error) as caught:
        call(*handed)
    case.assertIs(type(caught.exception), error)
    case.assertEqual(handed, before)
