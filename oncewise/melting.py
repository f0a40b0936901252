"""Cuts taken out of trees."""

from oncewise.cutting import cut_free
from oncewise.trees import web_of
from oncewise.wayback import tree_of


# By way of the web: there each cut goes alone, while in a tree the rules round it
# would have to be moved first.
def melted(tree):
    return tree_of(cut_free(web_of(tree)))
