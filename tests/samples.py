"""Words, webs and trees that several test files use."""

import copy
import itertools

from oncewise.trees import web_of
from oncewise.webs import eithers_of

A = ("plain", "a")
B = ("plain", "b")
C = ("plain", "c")
NOT_A = ("turned", "a")
NOT_B = ("turned", "b")
NOT_C = ("turned", "c")


def deep_left(depth, kind="both"):
    word = A
    for _ in range(depth - 1):
        word = (kind, word, B)
    return word


def deep_right(depth, kind="both"):
    word = A
    for _ in range(depth - 1):
        word = (kind, B, word)
    return word


def deep_left_line(depth, sign="&"):
    return "(" * (depth - 1) + "a" + f" {sign} b)" * (depth - 1)


def deep_right_line(depth, sign="&"):
    return f"(b {sign} " * (depth - 1) + "a" + ")" * (depth - 1)


def wide(leaves):
    """A word of so many leaves, no deeper than it must be."""
    if leaves == 1:
        return A
    kind = "both" if leaves % 2 == 0 else "either"
    return (kind, wide(leaves // 2), wide(leaves - leaves // 2))


def words_to_depth(depth, leaves=(A, NOT_A, B, NOT_B)):
    """All words of at most that depth over those leaves."""
    words = list(leaves)
    for _ in range(depth - 1):
        words = list(leaves) + [
            (kind, left, right)
            for kind in ("both", "either")
            for left in words
            for right in words
        ]
    return words


def wire():
    return ([A, NOT_A], [(0, 1)], [])


def two_wires():
    """Two links, of two NAMEs, all four leaves ends."""
    return ([A, NOT_A, B, NOT_B], [(0, 1), (2, 3)], [])


def cut_leaves():
    """A leaf of one link in a cut with a leaf of another."""
    return ([A, NOT_A, A, NOT_A], [(0, 1), (2, 3)], [(1, 2)])


def cut_pairs():
    """A both and an either knot in a cut, the upper place first, and a gone place."""
    knots = [
        A, B, ("both", 0, 1),
        None,
        NOT_A, NOT_B, ("either", 4, 5),
        NOT_A, NOT_B, ("either", 7, 8),
        A, B, ("both", 10, 11),
    ]
    return (knots, [(0, 7), (1, 8), (4, 10), (5, 11)], [(6, 2)])


def two_cuts():
    """Two cuts of leaves in a line of links."""
    knots = [A, NOT_A, A, NOT_A, A, NOT_A]
    return (knots, [(0, 1), (2, 3), (4, 5)], [(1, 2), (3, 4)])


def sound_webs():
    return [wire(), two_wires(), cut_leaves(), cut_pairs(), two_cuts()]


def ring_web():
    """A both knot round a link: its edges make a ring."""
    return ([A, NOT_A, ("both", 0, 1)], [(0, 1)], [])


def bad_right_web():
    """An either knot that is at fault where its right part is kept."""
    return ([A, NOT_A, B, NOT_B, ("either", 0, 2), ("both", 4, 3)], [(0, 1), (2, 3)], [])


def bad_at(choices):
    """A web of so many either knots of which just that switching is at fault.

    Each either knot leads on to the next one by the part that is told, and to a
    cluster by the other: a ring goes through all of them or through none.
    """
    count = len(choices)
    knots = []
    for _ in range(count):
        knots += [A, NOT_A, B, NOT_B]
    links = []
    for number, choice in enumerate(choices):
        own = 4 * number
        after = 4 * ((number + 1) % count)
        links += [(own, own + 1), tuple(sorted([own + 2, after + 3]))]
        parts = (own, own + 2) if choice == 1 else (own + 2, own)
        knots.append(("either",) + parts)
        knots.append(("both", len(knots) - 1, own + 3))
    cluster = 1
    for number in range(1, count):
        knots.append(("both", cluster, 4 * number + 1))
        cluster = len(knots) - 1
    return (knots, sorted(links), [])


class Growing:
    """Knots that grow with the rules that tell them."""

    def __init__(self):
        self.knots = []

    def put(self, knot):
        self.knots.append(knot)
        return len(self.knots) - 1

    def link(self, name="a", first="plain"):
        other = "turned" if first == "plain" else "plain"
        p = self.put((first, name))
        return ("link", p, self.put((other, name)))

    def either(self, i, j, arm):
        return ("either", self.put(("either", i, j)), arm)

    def both(self, i, j, left, right):
        return ("both", self.put(("both", i, j)), left, right)

    def mirror(self, word):
        """A rule whose two ends are a word and its turned side, and these two places."""
        if word[0] in ("plain", "turned"):
            rule = self.link(word[1], word[0])
            return (rule, rule[1], rule[2])
        left, left_place, left_side = self.mirror(word[1])
        right, right_place, right_side = self.mirror(word[2])
        if word[0] == "both":
            inner = self.both(left_place, right_place, left, right)
            outer = self.either(left_side, right_side, inner)
            return (outer, inner[1], outer[1])
        inner = self.both(left_side, right_side, left, right)
        outer = self.either(left_place, right_place, inner)
        return (outer, outer[1], inner[1])

    def tree(self, rule):
        return (self.knots, rule)


def mirror_tree(word):
    grown = Growing()
    return grown.tree(grown.mirror(word)[0])


def cut_mirrors(word):
    """Two mirrors of a word, the turned side of the one in a cut with the word of the other."""
    grown = Growing()
    first, _, side = grown.mirror(word)
    second, place, _ = grown.mirror(word)
    return grown.tree(("cut", side, place, first, second))


def chain_of_cuts(count):
    """So many rules within one another: links, each in a cut with all behind it."""
    grown = Growing()
    rule = grown.link()
    place = rule[1]
    for _ in range(count - 1):
        link = grown.link()
        rule = ("cut", link[2], place, link, rule)
        place = link[1]
    return grown.tree(rule)


def shifted(tree, by=1, every=2):
    """The same tree with gone places strewn in."""
    knots = [None] * by
    new = {}
    for place, knot in enumerate(tree[0]):
        if place % every == 0:
            knots.append(None)
        new[place] = len(knots)
        if knot is not None and knot[0] in ("both", "either"):
            knot = (knot[0], new[knot[1]], new[knot[2]])
        knots.append(knot)
    return (knots + [None], renumbered(tree[1], new))


def renumbered(rule, new):
    return tuple(
        new[part] if isinstance(part, int) else renumbered(part, new) if isinstance(part, tuple) else part
        for part in rule
    )


def mixed_tree():
    """All four rules, a gone place, knots whose left part lies above the right one."""
    grown = Growing()
    grown.put(None)
    first = grown.link("a")
    second = grown.link("b", "turned")
    inner = grown.both(second[1], first[1], second, first)
    outer = grown.either(second[2], first[2], inner)
    third, place, _ = grown.mirror(("both", NOT_B, A))
    grown.put(None)
    return grown.tree(("cut", outer[1], place, outer, third))


def tower(count, order):
    """Either rules round one another, in that order from the inside, round a row of both rules."""
    grown = Growing()
    rule = grown.link()
    ends = [rule[1]]
    last = rule[2]
    for _ in range(2 * count - 2):
        link = grown.link()
        rule = grown.both(last, link[1], rule, link)
        ends.append(rule[1])
        last = link[2]
    ends.append(last)
    places = [grown.put(("either", ends[2 * number], ends[2 * number + 1])) for number in range(count)]
    for number in order:
        rule = ("either", places[number], rule)
    return grown.tree(rule)


def plain_arms(rule):
    return [part for part in rule if isinstance(part, tuple)]


def rule_at(tree, way):
    rule = tree[1]
    for number in way:
        rule = plain_arms(rule)[number]
    return rule


def all_ways(tree):
    """The ways of all rules, in no order that is promised."""
    ways = [[]]
    for way in ways:
        ways += [way + [number] for number in range(len(plain_arms(rule_at(tree, way))))]
    return ways


def sound_trees():
    plain = ([A, NOT_A], ("link", 0, 1))
    turned_first = ([NOT_A, A], ("link", 0, 1))
    closed = ([A, NOT_A, ("either", 1, 0)], ("either", 2, ("link", 0, 1)))
    beside = ([A, NOT_A, B, NOT_B, ("both", 0, 3)], ("both", 4, ("link", 0, 1), ("link", 2, 3)))
    crossed = ([A, NOT_A, B, NOT_B, ("both", 3, 0)], ("both", 4, ("link", 2, 3), ("link", 0, 1)))
    trees = [plain, turned_first, closed, beside, crossed, mixed_tree(), chain_of_cuts(2), chain_of_cuts(5)]
    for word in words_to_depth(2):
        trees.append(mirror_tree(word))
    for word in (A, ("both", A, NOT_B), ("either", A, A), ("either", ("both", A, B), C)):
        trees.append(cut_mirrors(word))
    return trees + [shifted(tree) for tree in trees[:10]] + [shifted(trees[-1], 0, 3)]


def closed_wire():
    """One link whose two leaves are in a cut too."""
    return ([A, NOT_A], [(0, 1)], [(0, 1)])


def one_either():
    return ([A, NOT_A, ("either", 0, 1)], [(0, 1)], [])


def apart():
    """An either knot of two leaves that hang together with nothing but their links."""
    return ([A, B, ("either", 0, 1), NOT_A, NOT_B], [(0, 3), (1, 4)], [])


def ring_and_parts():
    """A ring that is not in the lowest place's piece."""
    return ([C, NOT_C, A, NOT_A, ("both", 2, 3)], [(0, 1), (2, 3)], [])


def cut_ring():
    """Two links and two cuts that make one ring of all places."""
    return ([A, NOT_A, A, NOT_A], [(0, 1), (2, 3)], [(0, 3), (1, 2)])


def waiting_web():
    """A right web whose lower either knot can be folded only behind the higher one."""
    knots = [A, NOT_A, A, NOT_A, B, NOT_B, ("either", 0, 4), ("both", 1, 2), ("either", 3, 7), ("both", 8, 5)]
    return (knots, [(0, 1), (2, 3), (4, 5)], [])


def beside(first, second):
    """Two webs side by side, the second one's places above the first one's."""
    by = len(first[0])
    knots = list(first[0])
    for knot in second[0]:
        is_pair = knot is not None and knot[0] in ("both", "either")
        knots.append((knot[0], knot[1] + by, knot[2] + by) if is_pair else knot)
    links = first[1] + [(p + by, q + by) for p, q in second[1]]
    return (knots, links, first[2] + [(p + by, q + by) for p, q in second[2]])


def shifted_web(web, by=1, every=2):
    """The same web with gone places strewn in."""
    rule = ("pairs",) + tuple(("link", p, q) for p, q in web[1]) + tuple(("cut", p, q) for p, q in web[2])
    knots, rule = shifted((web[0], rule), by, every)
    pairs = {kind: [part[1:] for part in rule[1:] if part[0] == kind] for kind in ("link", "cut")}
    return (knots, pairs["link"], pairs["cut"])


def all_small_webs():
    """Every web without cuts on some rows of knots."""
    rows = [
        [A, NOT_A, ("either", 0, 1)],
        [A, A, NOT_A, NOT_A, ("either", 0, 2), ("both", 4, 1)],
        [A, A, NOT_A, NOT_A, ("both", 0, 1), ("either", 2, 3)],
        [A, A, NOT_A, NOT_A, ("either", 0, 1), ("either", 2, 3), ("both", 4, 5)],
        [A, A, A, NOT_A, NOT_A, NOT_A, ("both", 0, 3), ("either", 1, 4), ("either", 6, 7), ("both", 8, 2)],
        [A, A, None, A, NOT_A, NOT_A, NOT_A, ("either", 0, 4), ("both", 1, 7), ("either", 8, 3), ("either", 5, 6)],
        [A, A, A, NOT_A, NOT_A, NOT_A, ("both", 1, 0), ("both", 6, 2), ("either", 3, 4), ("either", 8, 5)],
    ]
    webs = []
    for knots in rows:
        plain = [place for place, knot in enumerate(knots) if knot == A]
        turned = [place for place, knot in enumerate(knots) if knot == NOT_A]
        for order in itertools.permutations(turned):
            webs.append((knots, sorted(tuple(sorted(pair)) for pair in zip(plain, order)), []))
    return webs


def many_webs():
    webs = sound_webs() + [ring_web(), bad_right_web(), closed_wire(), apart(), ring_and_parts(), one_either()]
    webs += [bad_at([0, 1, 1]), bad_at([1, 0])]
    webs += [shifted_web(web) for web in webs]
    return webs + [web_of(tree) for tree in sound_trees()] + all_small_webs()


def all_choices(web):
    return [list(choices) for choices in itertools.product((0, 1), repeat=len(eithers_of(web)))]


def plain_edges(web, choices):
    """Point 42, word for word."""
    knots, links, cuts = web
    left = list(choices)
    edges = list(links) + list(cuts)
    for place, knot in enumerate(knots):
        if knot and knot[0] == "both":
            edges += [(place, knot[1]), (place, knot[2])]
        if knot and knot[0] == "either":
            edges.append((place, knot[1] if left.pop(0) == 0 else knot[2]))
    return edges


def piece_of(edges, start):
    piece = {start}
    grown = True
    while grown:
        more = {place for edge in edges if set(edge) & piece for place in edge} - piece
        piece |= more
        grown = bool(more)
    return piece


class Dice:
    """Numbers that look thrown, the same ones each time and under each Python."""

    def __init__(self, seed):
        self.state = seed

    def below(self, count):
        self.state = (self.state * 6364136223846793005 + 1442695040888963407) % 2 ** 64
        return (self.state >> 33) % count

    def one_of(self, things):
        return things[self.below(len(things))]

    def taken_from(self, things):
        return things.pop(self.below(len(things)))

    def shuffled(self, things):
        left = list(things)
        return [self.taken_from(left) for _ in things]


class Throwing(Growing):
    """A tree of all four rules that grows by dice, with at most so many places."""

    def __init__(self, seed, most, names="ab"):
        Growing.__init__(self)
        self.dice = Dice(seed)
        self.most = most
        self.names = names
        self.grown = []

    def has_room(self, cost):
        return len(self.knots) + cost + len(self.grown) <= self.most

    def add_link(self):
        rule = self.link(self.dice.one_of(self.names), self.dice.one_of(("plain", "turned")))
        self.grown.append((rule, [rule[1], rule[2]]))

    def add_either(self):
        rule, ends = self.dice.taken_from(self.grown)
        if len(ends) > 1:
            rule = self.either(self.dice.taken_from(ends), self.dice.taken_from(ends), rule)
            ends.append(rule[1])
        self.grown.append((rule, ends))

    def add_both(self):
        if len(self.grown) > 1:
            left, ends = self.dice.taken_from(self.grown)
            right, more = self.dice.taken_from(self.grown)
            rule = self.both(self.dice.taken_from(ends), self.dice.taken_from(more), left, right)
            self.grown.append((rule, ends + more + [rule[1]]))

    def add_cut(self):
        rule, ends = self.dice.taken_from(self.grown)
        place = self.dice.taken_from(ends)
        word = self.word(place, True)
        if not self.has_room(2 + 4 * self.leaves(word)):
            self.grown.append((rule, ends + [place]))
            return
        other, side, more = self.shown(word)
        if self.dice.below(2) == 0:
            rule = ("cut", place, side, rule, other)
        else:
            rule = ("cut", side, place, other, rule)
        self.grown.append((rule, ends + more))

    def word(self, place, is_turned):
        knot = self.knots[place]
        kinds = {"plain": "turned", "turned": "plain", "both": "either", "either": "both"}
        kind = kinds[knot[0]] if is_turned else knot[0]
        if knot[0] in ("plain", "turned"):
            return (kind, knot[1])
        return (kind, self.word(knot[1], is_turned), self.word(knot[2], is_turned))

    def leaves(self, word):
        return 1 if word[0] in ("plain", "turned") else self.leaves(word[1]) + self.leaves(word[2])

    def shown(self, word):
        """A rule of which the word is an end, the word's place, and the places of the other ends."""
        if word[0] in ("plain", "turned"):
            rule = self.link(word[1], word[0])
            return (rule, rule[1], [rule[2]])
        left, i, ends = self.shown(word[1])
        right, j, more = self.shown(word[2])
        if word[0] == "both":
            rule = self.both(i, j, left, right)
            return (rule, rule[1], ends + more)
        inner = self.both(self.dice.taken_from(ends), self.dice.taken_from(more), left, right)
        rule = self.either(i, j, inner)
        return (rule, rule[1], ends + more + [inner[1]])

    def thrown(self):
        steps = [self.add_link, self.add_either, self.add_both, self.add_cut, lambda: self.put(None)]
        self.add_link()
        while self.has_room(3):
            self.dice.one_of(steps[:4] * 3 + steps)()
        while len(self.grown) > 1:
            self.add_both()
        return self.tree(self.grown[0][0])


def thrown_tree(seed, most, names="ab"):
    return Throwing(seed, most, names).thrown()


def thrown_trees(seeds, sizes):
    return [thrown_tree(seed, most, "a" if seed % 2 else "abc") for seed in seeds for most in sizes]


def relinked(web, seed):
    """The same knots and cuts, with the links of each NAME put otherwise."""
    dice = Dice(seed)
    knots, links, cuts = web
    names = sorted({knots[p][1] for p, _ in links})
    new = []
    for name in names:
        plain = [place for place, knot in enumerate(knots) if knot == ("plain", name)]
        turned = [place for place, knot in enumerate(knots) if knot == ("turned", name)]
        new += [tuple(sorted(pair)) for pair in zip(plain, dice.shuffled(turned))]
    return (knots, sorted(new), cuts)


def two_swapped(web, seed):
    """The same web, but for two links that have changed one place with one another."""
    dice = Dice(seed)
    knots, links, cuts = web
    mates = {p: q for pair in links for p, q in (pair, pair[::-1])}
    plain = [place for place in mates if knots[place][0] == "plain"]
    first = dice.one_of(plain)
    second = dice.one_of([place for place in plain if knots[place] == knots[first]])
    mates[first], mates[second] = mates[second], mates[first]
    return (knots, sorted(tuple(sorted([p, mates[p]])) for p in plain), cuts)


def thrown_webs(seeds, sizes):
    """Webs of trees, and webs of the same knots and cuts with other links."""
    webs = []
    for number, tree in enumerate(thrown_trees(seeds, sizes)):
        web = web_of(tree)
        webs += [web, two_swapped(web, number), relinked(web, number)]
    return webs


def loosened(text):
    """The same text in other guises: more blanks, lines of blanks, no last line feed."""
    return [
        text[:-1],
        text.replace(" ", "   "),
        text.replace("\n", "  \n  "),
        text.replace("\n", "\n\n   \n"),
        "\n \n" + text.replace(" ", "  ").replace("\n", " \n\n") + "   ",
    ]


def lists_in(value):
    """All lists in a value, each as often as it stands there."""
    found = [value] if isinstance(value, list) else []
    if isinstance(value, (list, tuple)):
        for part in value:
            found += lists_in(part)
    return found


def unchanged(case, call, *handed):
    """The answer of a call, which must leave what it was handed as it was.

    Each list in the answer must be a new one, and no two of them one.
    """
    before = copy.deepcopy(handed)
    answer = call(*handed)
    case.assertEqual(handed, before)
    told = [id(found) for found in lists_in(answer)]
    case.assertEqual(len(set(told)), len(told), "two told lists are one")
    case.assertEqual(set(told) & {id(found) for found in lists_in(handed)}, set(), "a list that was handed in is told")
    return answer


def refused(case, error, call, *handed):
    """A call must be refused with just this class and leave what it was handed."""
    before = copy.deepcopy(handed)
    with case.assertRaises(error) as caught:
        call(*handed)
    case.assertIs(type(caught.exception), error)
    case.assertEqual(handed, before)
