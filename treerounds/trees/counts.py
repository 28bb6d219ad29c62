"""How many trees a web has, their weights, and trees by their numbers."""

from treerounds.errors import NoNumber
from treerounds.trees.tables import tree_lying_at, weight_ahead, weight_of_all
from treerounds.trees.trees import check_tree
from treerounds.webs.drawn_in import web_without
from treerounds.webs.parts import check_tie, is_whole


def count_trees(web):
    """How many trees a web has."""
    return weigh_trees(evened(web))


def weigh_trees(web):
    """The sum of the weights of all trees of a web."""
    names, ties = web
    return weight_of_all(names, ties)


def count_with(web, tie):
    """How many trees have a tie, and how many have not, or NoTie."""
    check_tie(web, tie)
    without = count_trees(web_without(web, tie))
    return count_trees(web) - without, without


def tree_at(web, number):
    """The tree with a number, trees in order, or NoNumber."""
    if not is_whole(number) or not 0 <= number < count_trees(web):
        raise NoNumber("no tree has this number")
    return tree_lying_at(evened(web), number)


def number_of(web, tree):
    """The number of a tree, trees in order, or NoTree."""
    check_tree(web, tree)
    return weight_ahead(evened(web), tree)


def evened(web):
    """The web with all weights 1, in which weighing trees is counting them."""
    names, ties = web
    return names, tuple([(one, other, 1) for one, other, _ in ties])
