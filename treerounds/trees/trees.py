"""Trees of a web, ways in them, and exchanges from tree to tree."""

from treerounds.errors import NoTie, NoTree
from treerounds.trees.joins import heads_of, without_rounds
from treerounds.webs.parts import check_names, is_tie


def is_tree(web, row):
    """Whether a row of whole numbers is a tree of the web."""
    # As many ties as a tree has, with no way round, lead from each name to each.
    return is_forest(web, row) and len(row) == len(web[0]) - 1


def way_in(web, tree, one, other):
    """The ties of a tree in order from one name to another, or NoTree, NoName."""
    check_tree(web, tree)
    check_names(web, (one, other))
    return ways_from(web, tree, one)[other]


def exchanges_of(web, tree):
    """All exchanges of a tree, in order, or NoTree."""
    check_tree(web, tree)
    return [(out, put) for out in tree for put in cut_of(web, tree, out) if put != out]


def exchanged(web, tree, exchange):
    """The tree that comes of a tree by an exchange, or NoTree, NoTie."""
    check_tree(web, tree)
    out, put = exchange
    if not is_exchange(web, tree, out, put):
        raise NoTie("this pair is no exchange of the tree")
    return swapped(tree, out, put)


def exchanges_between(web, one, other):
    """The fewest exchanges that lead from one tree to another, or NoTree."""
    check_tree(web, one)
    check_tree(web, other)
    exchanges = []
    while one != other:
        out = first_lost(one, other)
        put = first_put(web, one, out, other)
        exchanges.append((out, put))
        one = swapped(one, out, put)
    return tuple(exchanges)


def is_forest(web, row):
    """Whether a row of whole numbers is rising ties' numbers with no way round."""
    if not isinstance(row, tuple) or not all(is_tie(web, tie) for tie in row):
        return False
    return rises(row) and without_rounds(web, row) == list(row)


def check_tree(web, row):
    """Refuse with NoTree a row that is no tree of the web."""
    if not is_tree(web, row):
        raise NoTree("this row is no tree of the web")


def rises(row):
    """Whether each thing in a row is greater than the one ahead of it."""
    return all([row[at] < row[at + 1] for at in range(len(row) - 1)])


def ways_from(web, forest, start):
    """A dict of the ways in a forest from one name to each that it leads to, as tuples of ties."""
    ways, reached = {start: ()}, 0
    while reached < len(ways):
        reached = len(ways)
        for tie in forest:
            one, other, _ = web[1][tie]
            if one in ways and other not in ways:
                ways[other] = ways[one] + (tie,)
            elif other in ways and one not in ways:
                ways[one] = ways[other] + (tie,)
    return ways


def way_beside(web, forest, tie):
    """The way in a forest between the two names of a tie, or None where there is none."""
    one, other, _ = web[1][tie]
    return ways_from(web, forest, one).get(other)


def cut_of(web, tree, tie):
    """The ties of the web, in order, between the two sides of a tree without one of its ties."""
    heads = heads_of(web, [held for held in tree if held != tie])
    return [at for at, (one, other, _) in enumerate(web[1]) if heads[one] != heads[other]]


def swapped(tree, out, put):
    """A tree's row of ties with one tie in the place of another, rising."""
    return tuple(sorted([tie for tie in tree if tie != out] + [put]))


def is_exchange(web, tree, out, put):
    """Whether two whole numbers are an exchange of a tree."""
    if not is_tie(web, out) or not is_tie(web, put):
        return False
    return out in tree and put not in tree and is_tree(web, swapped(tree, out, put))


def first_lost(one, other):
    """The first tie of one tree that another, unlike one has not."""
    return min([tie for tie in one if tie not in other])


def first_put(web, tree, out, other):
    """The first tie of another tree that makes a tree in the place of a tie of this one."""
    return min([put for put in other if is_exchange(web, tree, out, put)])
