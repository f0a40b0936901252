"""The way back: where a web parts in two, and a tree told back from it."""

from oncewise.errors import NoTree
from oncewise.pieces import Pieces
from oncewise.shrinking import boths_of, first_bad, part_edges
from oncewise.webs import ends_of, parts_of, places_there


def all_edges(web):
    return web[1] + web[2] + part_edges(web[0], places_there(web[0]))


def piece_at(pieces, knots, place):
    head = pieces.head_of(place)
    return [other for other in places_there(knots) if pieces.head_of(other) == head]


# The pieces of the two places; None where these lie in one piece.
def sides_by(knots, edges, p, q):
    pieces = Pieces(len(knots))
    for edge in edges:
        pieces.unite(edge[0], edge[1])
    if pieces.head_of(p) == pieces.head_of(q):
        return None
    return (piece_at(pieces, knots, p), piece_at(pieces, knots, q))


# An end is no part and in no cut, so the edges that begin with it are all it has.
def parted_boths(web):
    knots = web[0]
    ends = ends_of(web)
    edges = all_edges(web)
    parted = []
    for place in [both for both in boths_of(web) if both in ends]:
        others = [edge for edge in edges if edge[0] != place]
        sides = sides_by(knots, others, knots[place][1], knots[place][2])
        if sides is not None:
            parted.append(("both", place) + sides)
    return parted


# A cut's edge is left out by its number, for a link may be of the same two places.
def parted_cuts(web):
    edges = all_edges(web)
    parted = []
    for number, cut in enumerate(web[2], start=len(web[1])):
        sides = sides_by(web[0], edges[:number] + edges[number + 1:], cut[0], cut[1])
        if sides is not None:
            parted.append(("cut",) + cut + sides)
    return parted


def partings(web):
    return parted_boths(web) + parted_cuts(web)


# Rules that grow together from the links on: each is kept by the piece of the places
# that are told in it, and a place that is not told yet is a piece without a rule.
class Grove:
    def __init__(self, count):
        self.pieces = Pieces(count)
        self.rules = {}

    def rule_at(self, place):
        return self.rules.get(self.pieces.head_of(place))

    def is_one(self, p, q):
        return self.pieces.head_of(p) == self.pieces.head_of(q)

    def grow(self, rule, places):
        for place in places:
            self.pieces.unite(places[0], place)
        self.rules[self.pieces.head_of(places[0])] = rule


# Each is a rule without its arms and the two places that it takes of them.
def rules_due(web):
    due = []
    for place in places_there(web[0]):
        knot = web[0][place]
        if parts_of(knot) != []:
            due.append(((knot[0], place), parts_of(knot)))
    for p, q in web[2]:
        due.append((("cut", p, q), [p, q]))
    return due


# None where the rule can't grow yet.
def arms_for(grove, rule, taken):
    arms = (grove.rule_at(taken[0]), grove.rule_at(taken[1]))
    if arms[0] is None or arms[1] is None:
        return None
    if rule[0] != "either":
        return arms
    return arms[:1] if grove.is_one(taken[0], taken[1]) else None


def grow_all(grove, due):
    later = []
    for rule, taken in due:
        arms = arms_for(grove, rule, taken)
        if arms is None:
            later.append((rule, taken))
        else:
            grove.grow(rule + arms, [rule[1]] + taken)
    return later


# Every rule comes to grow, in whatever order. Think of any tree of the web, and of a
# rule of it in whose arms all have grown: what it takes is told; of an either it lies
# in one piece, and of a both or a cut in two, or else a switching would have a ring.
def tree_of(web):
    choices = first_bad(web)
    if choices is not None:
        raise NoTree("a switching of the web is at fault", choices)
    grove = Grove(len(web[0]))
    for p, q in web[1]:
        grove.grow(("link", p, q), [p, q])
    due = rules_due(web)
    while due != []:
        due = grow_all(grove, due)
    return (list(web[0]), grove.rule_at(web[1][0][0]))
