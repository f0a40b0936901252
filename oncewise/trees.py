"""Trees: rules that link leaves, make knots of parts and cut, each place told once."""

from oncewise.errors import BadTree
from oncewise.webs import are_knots, each_once, is_cut, is_link, parts_in, parts_of, places_there

PLACE_COUNTS = {"link": 2, "either": 1, "both": 1, "cut": 2}

ARM_COUNTS = {"link": 0, "either": 1, "both": 2, "cut": 2}


def places_of(rule):
    return list(rule[1:1 + PLACE_COUNTS[rule[0]]])


def arms_of(rule):
    return list(rule[1 + PLACE_COUNTS[rule[0]]:])


def rules_in(rule):
    rules = [rule]
    for arm in arms_of(rule):
        rules.extend(rules_in(arm))
    return rules


def told_by(rule):
    return [] if rule[0] == "cut" else places_of(rule)


# One list for each arm: which of the arm's ends are no ends of the rule any more.
def taken_by(knots, rule):
    if rule[0] == "link":
        return []
    if rule[0] == "cut":
        return [[rule[1]], [rule[2]]]
    parts = parts_of(knots[rule[1]])
    if rule[0] == "either":
        return [parts]
    return [[part] for part in parts]


def demand(holds, words):
    if not holds:
        raise BadTree(words)


def ends_by(knots, rule):
    ends = told_by(rule)
    for arm, taken in zip(arms_of(rule), taken_by(knots, rule)):
        arm_ends = ends_by(knots, arm)
        demand(all([place in arm_ends for place in taken]), "a rule takes what is no end of its arm")
        ends.extend([place for place in arm_ends if place not in taken])
    return ends


# Without recursion, and refused at the first place that is told twice: rules that
# share an arm again and again would else be walked for ever.
def demand_told_once(knots, rule):
    there = places_there(knots)
    told = {}
    due = [rule]
    while due != []:
        here = due.pop()
        for place in told_by(here):
            demand(place in there and place not in told, "a place is told twice, or is gone or out of range")
            told[place] = True
        due.extend(arms_of(here))
    demand(len(told) == len(there), "a place is told by no rule")


# A cut's places may be no parts here too: a knot takes its parts just as a cut
# takes its places, and nothing is an end once more behind that.
def fits(knots, rule):
    if rule[0] == "link":
        return is_link(knots, rule[1], rule[2])
    if rule[0] == "cut":
        return is_cut(knots, rule[1], rule[2])
    return knots[rule[1]][0] == rule[0]


# Each step trusts those ahead of it. A place that is a part of two knots would be
# refused at the ends anyway; it is refused ahead of the cuts, for else a few knots
# could tell a word of endless size there.
def checked_tree(tree):
    knots = tree[0]
    rule = tree[1]
    demand(are_knots(knots), "the knots are not sound, or all of them are gone")
    demand(each_once(parts_in(knots)), "a place is a part of two knots")
    demand_told_once(knots, rule)
    demand(all([fits(knots, inner) for inner in rules_in(rule)]), "a rule does not fit its knots")
    ends_by(knots, rule)
    return True


def tree_ends(tree):
    return sorted(ends_by(tree[0], tree[1]))


def pairs_by(rules, kind):
    return sorted([(rule[1], rule[2]) for rule in rules if rule[0] == kind])


def web_of(tree):
    rules = rules_in(tree[1])
    return (list(tree[0]), pairs_by(rules, "link"), pairs_by(rules, "cut"))
