"""Switchings: choices at the either knots, the edges that they keep, and their faults."""

from oncewise.errors import BadChoices, TooMany
from oncewise.pieces import Pieces
from oncewise.webs import eithers_of, places_there

MOST_TRIED = 10


def ways_to_choose(count):
    ways = 1
    for choice in range(count):
        ways = ways * 2
    return ways


# The number is not shown in the refusal: a very great one can't be shown as a text.
def choices_at(count, number):
    if not 0 <= number < ways_to_choose(count):
        raise BadChoices("no list of choices has that number")
    choices = []
    rest = number
    for choice in range(count):
        choices.append(rest % 2)
        rest = rest // 2
    choices.reverse()
    return choices


def kept_parts(web, choices):
    eithers = eithers_of(web)
    if len(choices) != len(eithers) or not all([choice in (0, 1) for choice in choices]):
        raise BadChoices("the choices are not one for each either knot, each 0 or 1")
    kept = {}
    for place, choice in zip(eithers, choices):
        kept[place] = web[0][place][1 + choice]
    return kept


def edges_by(web, choices):
    kept = kept_parts(web, choices)
    edges = web[1] + web[2]
    for place in places_there(web[0]):
        knot = web[0][place]
        if knot[0] == "both":
            edges.append((place, knot[1]))
            edges.append((place, knot[2]))
        if knot[0] == "either":
            edges.append((place, kept[place]))
    return edges


def neighbours_by(edges):
    near = {}
    for number, edge in enumerate(edges):
        near.setdefault(edge[0], []).append((number, edge[1]))
        near.setdefault(edge[1], []).append((number, edge[0]))
    return near


# Of edges without a ring, by which the two places hang together.
def path_by(edges, start, goal):
    near = neighbours_by(edges)
    paths = {start: []}
    due = [start]
    while goal not in paths:
        here = due.pop()
        for number, place in near[here]:
            if place not in paths:
                paths[place] = paths[here] + [number]
                due.append(place)
    return paths[goal]


def fault_by(web, choices):
    edges = edges_by(web, choices)
    pieces = Pieces(len(web[0]))
    for number, edge in enumerate(edges):
        if not pieces.unite(edge[0], edge[1]):
            return ("ring", sorted(path_by(edges[:number], edge[0], edge[1]) + [number]))
    there = places_there(web[0])
    head = pieces.head_of(there[0])
    piece = [place for place in there if pieces.head_of(place) == head]
    return None if piece == there else ("parts", piece)


def first_bad_tried(web):
    count = len(eithers_of(web))
    if count > MOST_TRIED:
        raise TooMany(f"the web has {count} either knots, more than {MOST_TRIED}")
    for number in range(ways_to_choose(count)):
        choices = choices_at(count, number)
        if fault_by(web, choices) is not None:
            return choices
    return None
