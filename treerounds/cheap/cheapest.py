"""Trees in order of cost, and papers that none is cheaper."""

from heapq import heappop, heappush

from treerounds.errors import NoTree
from treerounds.trees.joins import without_rounds
from treerounds.trees.trees import check_tree, exchanges_of, is_tree, swapped, way_beside


def cost_of(web, tree):
    """The sum of the weights of a tree's ties, or NoTree."""
    check_tree(web, tree)
    return cost_in(web, tree)


def cheapest(web, k):
    """The first k trees in order of cost, then as tuples: pairs (cost, tree)."""
    first = cheapest_tree(web)
    if first is None:
        return []
    told, seen = [], {first: True}
    queue = [(cost_in(web, first), first)]
    # Each tree but the first comes by an exchange of one ahead of it in this order, and so the
    # next one is always among those that come of the told ones.
    while queue and len(told) < k:
        cost, tree = heappop(queue)
        told.append((cost, tree))
        for out, put in exchanges_of(web, tree):
            beside = swapped(tree, out, put)
            if beside not in seen:
                seen[beside] = True
                heappush(queue, (cost_in(web, beside), beside))
    return told


def cheap_paper(web, tree):
    """For each tie outside a tree the heaviest on the way between its names.

    NoTree where the row is no tree, or another tree is cheaper.
    """
    check_tree(web, tree)
    paper = []
    for tie in ties_outside(web, tree):
        way = way_beside(web, tree, tie)
        heaviest = min(way, key=lambda held: (-weight_of(web, held), held))
        if weight_of(web, heaviest) > weight_of(web, tie):
            raise NoTree("another tree is cheaper")
        paper.append((tie, heaviest))
    return tuple(paper)


def cheap_shown(web, tree, paper):
    """Whether a tuple of pairs shows of a row that it is a tree and that none is cheaper."""
    if not is_tree(web, tree) or [tie for tie, _ in paper] != ties_outside(web, tree):
        return False
    return all(is_heaviest(web, way_beside(web, tree, tie), tie, held) for tie, held in paper)


def cost_in(web, tree):
    """The sum of the weights of some ties."""
    return sum([weight_of(web, tie) for tie in tree])


def weight_of(web, tie):
    """The weight of a tie."""
    return web[1][tie][2]


def cheapest_forest(web):
    """Of the ties in order of weight, then of names, each with no way round with those ahead."""
    order = sorted(range(len(web[1])), key=lambda tie: (weight_of(web, tie), tie))
    return tuple(sorted(without_rounds(web, order)))


def cheapest_tree(web):
    """The first tree in order of cost, then as tuples, or None where there is none."""
    forest = cheapest_forest(web)
    return forest if len(forest) == len(web[0]) - 1 else None


def ties_outside(web, tree):
    """The ties that are not in a tree, rising."""
    return [tie for tie in range(len(web[1])) if tie not in tree]


def is_heaviest(web, way, tie, held):
    """Whether a tie held in a way is as heavy as any other there, and no more than a tie."""
    if held not in way or weight_of(web, held) > weight_of(web, tie):
        return False
    return all(weight_of(web, other) <= weight_of(web, held) for other in way)
