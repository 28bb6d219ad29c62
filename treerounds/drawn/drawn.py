"""Trees drawn evenly by a number, and by weight by a fraction."""

from treerounds.errors import NoNumber
from treerounds.shares.fraction import is_fraction
from treerounds.trees.counts import tree_at, weigh_trees
from treerounds.trees.tables import tree_lying_at


def drawn_by(web, number):
    """The tree with a number, or NoNumber."""
    return tree_at(web, number)


def drawn_share(web, fraction):
    """The tree in whose share of all weights a fraction lies, trees in order, or NoNumber."""
    if not is_fraction(fraction) or not 0 <= fraction[0] < fraction[1]:
        raise NoNumber("this is no fraction from 0 on, below 1")
    weight = weigh_trees(web)
    if weight == 0:
        raise NoNumber("the web has no tree")
    # All trees begin and end at whole numbers, and so what the division leaves does not matter.
    return tree_lying_at(web, fraction[0] * weight // fraction[1])
