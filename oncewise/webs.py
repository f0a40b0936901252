"""Webs: words laid as knots, with links of their leaves and cuts between them."""

from oncewise.errors import BadWeb
from oncewise.words import is_leaf, turned


def word_at(knots, place):
    knot = knots[place]
    if is_leaf(knot):
        return knot
    return (knot[0], word_at(knots, knot[1]), word_at(knots, knot[2]))


def lay_word(knots, word):
    if is_leaf(word):
        knots.append(word)
    else:
        left = lay_word(knots, word[1])
        right = lay_word(knots, word[2])
        knots.append((word[0], left, right))
    return len(knots) - 1


def laid(words):
    knots = []
    places = []
    for word in words:
        places.append(lay_word(knots, word))
    return (knots, places)


def holds_leaf(knot):
    return knot is not None and is_leaf(knot)


def places_there(knots):
    return [place for place, knot in enumerate(knots) if knot is not None]


def parts_of(knot):
    if knot is None or is_leaf(knot):
        return []
    return [knot[1], knot[2]]


def parts_in(knots):
    parts = []
    for knot in knots:
        parts.extend(parts_of(knot))
    return parts


def places_in(pairs):
    places = []
    for p, q in pairs:
        places.append(p)
        places.append(q)
    return places


def each_once(places):
    return len(set(places)) == len(places)


def parts_fit(knots, place):
    parts = parts_of(knots[place])
    fit = all([0 <= part < place and knots[part] is not None for part in parts])
    return fit and each_once(parts)


def are_knots(knots):
    fit = all([parts_fit(knots, place) for place in range(len(knots))])
    return fit and any([knot is not None for knot in knots])


def is_link(knots, p, q):
    if not 0 <= p < q < len(knots):
        return False
    return holds_leaf(knots[p]) and knots[q] == turned(knots[p])


def are_links(knots, links):
    fit = all([is_link(knots, p, q) for p, q in links])
    leaves = [place for place, knot in enumerate(knots) if holds_leaf(knot)]
    return fit and sorted(places_in(links)) == leaves and links == sorted(links)


def can_be_cut(knots, place):
    return 0 <= place < len(knots) and knots[place] is not None and place not in parts_in(knots)


def is_cut(knots, p, q):
    if not (can_be_cut(knots, p) and can_be_cut(knots, q)):
        return False
    return word_at(knots, q) == turned(word_at(knots, p))


def are_cuts(knots, cuts):
    fit = all([is_cut(knots, p, q) for p, q in cuts])
    return fit and each_once(places_in(cuts)) and cuts == sorted(cuts)


def demand(holds, words):
    if not holds:
        raise BadWeb(words)


# Each step trusts those ahead of it: words may be built for the cuts only where
# no place is a part twice, for else a few knots could tell a word of endless size.
def checked_web(web):
    knots = web[0]
    demand(are_knots(knots), "the knots are not sound, or all of them are gone")
    demand(each_once(parts_in(knots)), "a place is a part of two knots")
    demand(are_links(knots, web[1]), "the links do not link each leaf once, in rising order")
    demand(are_cuts(knots, web[2]), "the cuts are not of two free turned sides each, in rising order")
    return True


def ends_of(web):
    knots = web[0]
    used = parts_in(knots) + places_in(web[2])
    return [place for place, knot in enumerate(knots) if knot is not None and place not in used]


def eithers_of(web):
    return [place for place, knot in enumerate(web[0]) if knot is not None and knot[0] == "either"]
