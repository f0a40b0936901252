"""Cuts taken out of webs, one step after the other."""

from oncewise.errors import NoCut
from oncewise.webs import parts_of, word_at
from oncewise.words import is_leaf, size_of


def partner_of(links, place):
    for p, q in links:
        if p == place:
            return q
        if q == place:
            return p
    return None


def links_without(links, p, q):
    x = partner_of(links, p)
    y = partner_of(links, q)
    if x == q:
        raise NoCut(f"the places {p} and {q} of the cut are linked with one another")
    kept = [link for link in links if p not in link and q not in link]
    return sorted(kept + [(min(x, y), max(x, y))])


# The number is not shown in the refusal: a very great one can't be shown as a text.
def cut_step(web, k):
    cuts = web[2]
    if not 0 <= k < len(cuts):
        raise NoCut("no cut has that number")
    knots = list(web[0])
    p = cuts[k][0]
    q = cuts[k][1]
    links = links_without(web[1], p, q) if is_leaf(knots[p]) else list(web[1])
    inner = list(zip(parts_of(knots[p]), parts_of(knots[q])))
    knots[p] = None
    knots[q] = None
    return (knots, links, sorted(cuts[:k] + cuts[k + 1:] + inner))


def steps_due(web):
    return sum([size_of(word_at(web[0], cut[0])) for cut in web[2]])


# The cut of number nought each time: whichever is taken, the end is the same.
def cut_free(web):
    free = (list(web[0]), list(web[1]), list(web[2]))
    while free[2] != []:
        free = cut_step(free, 0)
    return free
