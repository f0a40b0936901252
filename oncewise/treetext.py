"""Trees as texts: the knots line by line and the rules in one line, written and read back."""

from oncewise.errors import BadText
from oncewise.trees import ARM_COUNTS, PLACE_COUNTS, checked_tree, places_of, rules_in
from oncewise.webtext import knots_from, number_from, rows_ahead, rows_in, written_knots
from oncewise.wordtext import TokenWalk

MOST_WITHIN = 150


def shown_rule(rule):
    words = []
    for inner in rules_in(rule):
        words.append(inner[0])
        words.extend([str(place) for place in places_of(inner)])
    return " ".join(words)


def written_tree(tree):
    shown = shown_rule(tree[1])
    return written_knots(tree[0]) + f"tree {shown}\n"


def rule_from(walk, within):
    # Refused ahead of reading on: a long line must not lead into a deep recursion.
    if within > MOST_WITHIN:
        raise BadText(f"more than {MOST_WITHIN} rules stand within one another")
    kind = walk.take()
    if kind not in PLACE_COUNTS:
        raise BadText(f"a rule is missing at {kind!r}")
    parts = [kind]
    for count in range(PLACE_COUNTS[kind]):
        parts.append(number_from(walk.take()))
    for count in range(ARM_COUNTS[kind]):
        parts.append(rule_from(walk, within + 1))
    return tuple(parts)


def outermost_from(words):
    walk = TokenWalk(words)
    rule = rule_from(walk, 1)
    behind = walk.take()
    if behind != "":
        raise BadText(f"behind the rule stands {behind!r}")
    return rule


# The whole text is read ahead of the check: a text that is badly written is
# refused for that, whatever the tree would be.
def read_tree(text):
    rows = rows_in(text)
    knot_rows = rows_ahead(rows, "knot")
    tree_rows = rows[len(knot_rows):]
    if len(tree_rows) != 1 or tree_rows[0][0] != "tree":
        raise BadText("behind the knots stands no tree line, or not that alone")
    tree = (knots_from(knot_rows), outermost_from(tree_rows[0][1:]))
    checked_tree(tree)
    return tree
