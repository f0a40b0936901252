"""Exchanges: a rule comes out of the one straight round it, which goes in; the web stays."""

from oncewise.errors import NoExchange
from oncewise.trees import PLACE_COUNTS, arms_of, rules_in, taken_by, told_by


def with_arm(rule, number, arm):
    at = 1 + PLACE_COUNTS[rule[0]] + number
    return rule[:at] + (arm,) + rule[at + 1:]


def all_told(rule):
    places = []
    for inner in rules_in(rule):
        places.extend(told_by(inner))
    return places


# An end of a rule that is told in one of its arms is an end of that arm too. The place
# of the rule itself is told in none of them, and a link has none.
def arm_that_tells(rule, places):
    for number, arm in enumerate(arms_of(rule)):
        told = all_told(arm)
        if all([place in told for place in places]):
            return number
    return None


# All four kinds of exchanges at once: the outer rule goes round that arm of the inner
# one of which all that it takes are ends. None where there is no such arm.
def turned_out(knots, rule, arm):
    inner = arms_of(rule)[arm]
    number = arm_that_tells(inner, taken_by(knots, rule)[arm])
    if number is None:
        return None
    return with_arm(inner, number, with_arm(rule, arm, arms_of(inner)[number]))


# The numbers are not shown in the refusal: a very great one can't be shown as a text.
def arm_at(rule, number):
    arms = arms_of(rule)
    if not 0 <= number < len(arms):
        raise NoExchange("a rule has no arm of that number")
    return arms[number]


def rules_along(rule, way):
    along = [rule]
    for number in way:
        along.append(arm_at(along[-1], number))
    return along


def exchanged(tree, way, arm):
    along = rules_along(tree[1], way)
    arm_at(along[-1], arm)
    rule = turned_out(tree[0], along[-1], arm)
    if rule is None:
        raise NoExchange("the two rules can't be exchanged")
    for number, outer in reversed(list(zip(way, along))):
        rule = with_arm(outer, number, rule)
    return (list(tree[0]), rule)


# Pairs of a way and its rule, by rising ways.
def rules_by_way(rule):
    found = []
    due = [([], rule)]
    while due != []:
        here = due.pop()
        found.append(here)
        behind = [(here[0] + [number], arm) for number, arm in enumerate(arms_of(here[1]))]
        behind.reverse()
        due.extend(behind)
    return found


def exchanges_of(tree):
    pairs = []
    for way, rule in rules_by_way(tree[1]):
        for arm in range(len(arms_of(rule))):
            if turned_out(tree[0], rule, arm) is not None:
                pairs.append((list(way), arm))
    return pairs
