"""Rows and rounds of all trees of a web in which each is one exchange from the next."""

from treerounds.errors import NoTie
from treerounds.trees.counts import count_trees
from treerounds.trees.joins import without_rounds
from treerounds.trees.orders import first_tree
from treerounds.trees.trees import (check_tree, cut_of, exchanged, exchanges_of, first_lost,
                                    is_tree, swapped)
from treerounds.webs.parts import check_tie


def tree_round(web):
    """All trees by exchanges: ("round", list) of three or more, else ("row", list)."""
    first = first_tree(web)
    if first is None:
        return "row", []
    trees = row_from(web, tuple(range(len(web[1]))), first)
    return ("round" if len(trees) >= 3 else "row"), trees


def row_shown(web, trees):
    """Whether a list of tuples of whole numbers is a row of all trees that goes by exchanges."""
    if not all(is_tree(web, tree) for tree in trees):
        return False
    if len(set(trees)) != len(trees) or len(trees) != count_trees(web):
        return False
    return all([are_beside(one, other) for one, other in zip(trees, trees[1:])])


def round_shown(web, trees):
    """Whether a list of tuples of whole numbers is a round of all trees."""
    return len(trees) >= 3 and row_shown(web, trees) and are_beside(trees[-1], trees[0])


def exchanges_along(web, trees):
    """The exchanges by which a list of trees goes."""
    return [(first_lost(one, other), first_lost(other, one))
            for one, other in zip(trees, trees[1:])]


def row_by(web, tree, exchanges):
    """The row of trees from a first one by exchanges, or NoTree, NoTie."""
    check_tree(web, tree)
    trees = [tree]
    for exchange in exchanges:
        tree = exchanged(web, tree, exchange)
        trees.append(tree)
    return trees


def row_from_with(web, tie):
    """A row of all trees, by exchanges, from one with a tie to one without it, or NoTie."""
    check_tie(web, tie)
    rest = tuple([at for at in range(len(web[1])) if at != tie])
    near = tuple(sorted(without_rounds(web, (tie,) + rest)))
    if not is_tree(web, near):
        raise NoTie("the web has no tree, and so none has this tie")
    puts = [put for put in cut_of(web, near, tie) if put != tie]
    if not puts:
        raise NoTie("all trees have this tie")
    far = swapped(near, tie, puts[0])
    return row_from(web, rest, near)[::-1] + row_from(web, rest, far)


def are_beside(one, other):
    """Whether two trees of a web are one exchange apart."""
    return len([tie for tie in one if tie not in other]) == 1


def trees_beside(web, free, tree):
    """The trees that come of a tree by an exchange of free ties."""
    return [swapped(tree, out, put) for out, put in exchanges_of(web, tree)
            if out in free and put in free]


def row_from(web, free, tree):
    """All trees that come of a tree by exchanges of free ties, in a row by exchanges.

    It begins with the tree and ends with one beside it, where there is another one.
    """
    beside = trees_beside(web, free, tree)
    return row_between(web, free, tree, beside[0]) if beside else [tree]


def row_between(web, free, one, other):
    """The same of two trees beside one another: a row that begins with one, ends with the other.

    First come all trees with the tie that one has alone, then all without it.
    """
    lost = first_lost(one, other)
    rest = tuple([tie for tie in free if tie != lost])
    near, far = crossing(web, rest, one, other)
    ahead = [one] if near == one else row_between(web, rest, one, near)
    behind = [other] if far == other else row_between(web, rest, far, other)
    return ahead + behind


def crossing(web, rest, one, other):
    """Two trees beside one another where a row crosses from one's side to the other's.

    Each is beside its own one of the two; where that one is alone on its side, it is that one.
    """
    # There always are two such. Say other is one - f + g. Where no tie but g can stand for f in
    # one, an exchange that leads other to far leads one to near. Where y can, too, and for some
    # u as well, they are one - u + y and one - f + y. Where y can for f alone, y is like f
    # everywhere: they are one - u + g and that with y for f, or, where g is like f, too,
    # one - u + v and that with g for f.
    ones = trees_beside(web, rest, one) or [one]
    others = trees_beside(web, rest, other) or [other]
    for near in ones:
        fars = [far for far in others if are_beside(near, far)]
        if fars:
            return near, fars[0]
