"""Sameness: exchanges that lead from a tree to another one of the same web."""

from oncewise.errors import OtherWeb
from oncewise.exchanging import exchanged, rules_along, rules_by_way
from oncewise.trees import places_of, web_of


def is_same_rule(rule, other):
    return rule[0] == other[0] and places_of(rule) == places_of(other)


# The rule comes out by one exchange after the other until it stands at the way.
def steps_out(tree, way, rule):
    within = rules_by_way(rules_along(tree[1], way)[-1])
    inner = [path for path, found in within if is_same_rule(found, rule)][0]
    return [(way + inner[:at], inner[at]) for at in range(len(inner) - 1, -1, -1)]


# From the outermost rule of the other tree inwards. Each of these steps can be done:
# the rule's place is no part of what stands round it there, and in no cut; and without
# the rule the web of what stands at the way falls into the same pieces in both trees,
# so that no either knot has a part in each of two arms of it.
def way_between(tree, other):
    if web_of(tree) != web_of(other):
        raise OtherWeb("the two trees have not the same web")
    here = tree
    pairs = []
    for way, rule in rules_by_way(other[1]):
        for step in steps_out(here, way, rule):
            here = exchanged(here, step[0], step[1])
            pairs.append(step)
    return pairs
