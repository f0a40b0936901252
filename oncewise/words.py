"""Words: leaves, both and either; their depth, size, leaves and turned side."""

MOST_LETTERS = 8

LEAF_KINDS = ("plain", "turned")

TURNED_KINDS = {"plain": "turned", "turned": "plain", "both": "either", "either": "both"}


def is_name(text):
    return 1 <= len(text) <= MOST_LETTERS and all(["a" <= sign <= "z" for sign in text])


def is_leaf(word):
    return word[0] in LEAF_KINDS


def depth_of(word):
    if is_leaf(word):
        return 1
    return 1 + max(depth_of(word[1]), depth_of(word[2]))


def turned(word):
    kind = TURNED_KINDS[word[0]]
    if is_leaf(word):
        return (kind, word[1])
    return (kind, turned(word[1]), turned(word[2]))


def size_of(word):
    if is_leaf(word):
        return 1
    return 1 + size_of(word[1]) + size_of(word[2])


def leaves_of(word):
    if is_leaf(word):
        return [word]
    return leaves_of(word[1]) + leaves_of(word[2])
