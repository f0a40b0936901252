"""Shrinking: pieces of a web joined and folded, which tells whether a switching is at fault."""

from oncewise.pieces import Pieces
from oncewise.webs import eithers_of, parts_of, places_there


def boths_of(web):
    return [place for place in places_there(web[0]) if web[0][place][0] == "both"]


def part_edges(knots, places):
    edges = []
    for place in places:
        edges.extend([(place, part) for part in parts_of(knots[place])])
    return edges


def joins_of(web):
    return web[1] + web[2] + part_edges(web[0], boths_of(web))


def join_steps(pieces, joins):
    steps = []
    for p, q in joins:
        if pieces.unite(p, q):
            steps.append(("join", p, q))
    return steps


def can_fold(pieces, knots, place):
    heads = [pieces.head_of(part) for part in parts_of(knots[place])]
    return heads[0] == heads[1] and heads[0] != pieces.head_of(place)


# One fold may open another one that was passed by, so all are gone through again
# until none can be done.
def fold_steps(pieces, knots, eithers):
    steps = []
    before = -1
    while before < len(steps):
        before = len(steps)
        for place in eithers:
            if can_fold(pieces, knots, place):
                pieces.unite(place, knots[place][1])
                steps.append(("fold", place))
    return steps


# The joins come first: behind them the two places of each join lie in one piece,
# and stay there, so that no fold opens a join.
def steps_by(knots, joins, eithers):
    pieces = Pieces(len(knots))
    return join_steps(pieces, joins) + fold_steps(pieces, knots, eithers)


def shrunk(web):
    return steps_by(web[0], joins_of(web), eithers_of(web))


# Each step makes one piece less, so one piece is left where the steps are one less
# than the places.
def all_come_together(knots, joins, eithers):
    due = len(places_there(knots)) - 1
    return len(joins) + len(eithers) == due and len(steps_by(knots, joins, eithers)) == due


def right_web(web):
    return all_come_together(web[0], joins_of(web), eithers_of(web))


# An either knot whose choice stands is joined with the part that it keeps. A choice is
# 1 only where no switching at fault has 0 there behind the choices that stand.
def first_bad(web):
    if right_web(web):
        return None
    knots = web[0]
    joins = joins_of(web)
    eithers = eithers_of(web)
    choices = []
    for number, place in enumerate(eithers):
        left = (place, knots[place][1])
        choice = 1 if all_come_together(knots, joins + [left], eithers[number + 1:]) else 0
        choices.append(choice)
        joins.append((place, knots[place][1 + choice]))
    return choices
