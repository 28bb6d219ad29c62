"""All trees of a web in order."""

from treerounds.trees.joins import without_rounds
from treerounds.trees.trees import check_tree, exchanges_of, is_tree, rises, swapped


def all_trees(web):
    """All trees of a web, in order."""
    trees = []
    tree = first_tree(web)
    while tree is not None:
        trees.append(tree)
        tree = tree_behind(web, tree)
    return trees


def next_tree(web, tree):
    """The next tree behind a tree, in order, or None behind the last; or NoTree."""
    check_tree(web, tree)
    return tree_behind(web, tree)


def all_shown(web, trees):
    """Whether a list of tuples of whole numbers is all trees of a web, in order."""
    if not trees:
        return first_tree(web) is None
    if not rises(trees) or not all(is_tree(web, tree) for tree in trees):
        return False
    # Exchanges lead from each tree to each, and so a list that none leads out of has all.
    known = {tree: True for tree in trees}
    return all(leads_to_known(web, tree, known) for tree in trees)


def leads_to_known(web, tree, known):
    """Whether all trees that come of a tree by an exchange are known ones."""
    return all([swapped(tree, out, put) in known for out, put in exchanges_of(web, tree)])


def first_tree(web):
    """The first tree of a web, in order, or None where it has none."""
    return filled_up(web, (), 0)


def tree_behind(web, tree):
    """The next tree behind a tree, in order, or None."""
    # The next one keeps as many of the first ties as it can.
    for at in reversed(range(len(tree))):
        told = filled_up(web, tree[:at], tree[at] + 1)
        if told is not None:
            return told
    return None


def filled_up(web, chosen, start):
    """The first tree of some chosen ties and of ties from a number on, behind them, or None."""
    told = without_rounds(web, chosen + tuple(range(start, len(web[1]))))
    return tuple(told) if len(told) == len(web[0]) - 1 else None
