"""Searching: a right web without cuts for a row of words, or what was tried for it."""

from oncewise.errors import TooMany
from oncewise.shrinking import first_bad
from oncewise.webs import laid, places_in
from oncewise.words import leaves_of, turned


def leaves_in(words):
    leaves = []
    for word in words:
        leaves.extend(leaves_of(word))
    return leaves


def first_uneven(leaves):
    for leaf in leaves:
        if leaves.count(leaf) != leaves.count(turned(leaf)):
            return leaf[1]
    return None


# Each plain leaf of a NAME gives one factor more, one greater than the last one's.
def tries_due(words):
    leaves = leaves_in(words)
    if first_uneven(leaves) is not None:
        return 0
    ways = 1
    counts = {}
    for kind, name in leaves:
        if kind == "plain":
            counts[name] = counts.get(name, 0) + 1
            ways = ways * counts[name]
    return ways


def linked_further(knots, ways, place):
    mates = [other for other, knot in enumerate(knots) if knot == turned(knots[place])]
    longer = []
    for links in ways:
        used = places_in(links)
        for mate in mates:
            if mate not in used:
                longer.append(links + [(min(place, mate), max(place, mate))])
    return longer


def ways_to_link(knots):
    ways = [[]]
    for place, knot in enumerate(knots):
        if knot[0] == "plain":
            ways = linked_further(knots, ways, place)
    return [sorted(links) for links in ways]


def linked_or_tried(knots):
    tried = []
    for links in ways_to_link(knots):
        web = (knots, links, [])
        choices = first_bad(web)
        if choices is None:
            return ("web", web)
        tried.append((links, choices))
    return ("tries", tried)


# The ways to link are made only behind the refusal: else they could be without number.
def searched(words, most=120):
    leaves = leaves_in(words)
    name = first_uneven(leaves)
    if name is not None:
        return ("names", name)
    knots = laid(words)[0]
    boths = len([knot for knot in knots if knot[0] == "both"])
    if len(leaves) != 2 * boths + 2:
        return ("count", len(leaves), boths)
    if tries_due(words) > most:
        raise TooMany("there are more ways to link than may be tried")
    return linked_or_tried(knots)
