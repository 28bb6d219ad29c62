"""What a tree has: its ends, ways, cuts and rounds; and how many trees have such ends."""

from treerounds.trees.orders import all_trees
from treerounds.trees.trees import check_tree, cut_of, way_beside, ways_from


def ends_of(web, tree):
    """The names with one tie of a tree, in order, or NoTree."""
    check_tree(web, tree)
    return ends_in(web, tree)


def longest_way(web, tree):
    """How many ties the longest way in a tree has, and the one or two names amid it; or NoTree."""
    check_tree(web, tree)
    longest, start = (), web[0][0]
    for name in web[0]:
        for way in ways_from(web, tree, name).values():
            if len(way) > len(longest):
                longest, start = way, name
    names = names_along(web, longest, start)
    ahead = len(longest) // 2
    return len(longest), tuple(sorted(names[ahead:len(names) - ahead]))


def way_sum(web, tree):
    """The sum of the lengths of all ways in a tree, each two names once, or NoTree."""
    check_tree(web, tree)
    lengths = [len(way) for name in web[0] for way in ways_from(web, tree, name).values()]
    # Each way is told from both of its ends.
    return sum(lengths) // 2


def cuts_and_rounds(web, tree):
    """For each tie its cut where it is in a tree, its round where it is not; or NoTree."""
    check_tree(web, tree)
    return tuple([cut_or_round(web, tree, tie) for tie in range(len(web[1]))])


def trees_by_ends(web):
    """How many trees have so many ends, from 0 to how many names there are."""
    many = [0] * (len(web[0]) + 1)
    for tree in all_trees(web):
        many[len(ends_in(web, tree))] += 1
    return tuple(many)


def ends_by_name(web):
    """For each name how many trees have it as an end."""
    ends = [name for tree in all_trees(web) for name in ends_in(web, tree)]
    return tuple([ends.count(name) for name in web[0]])


def ends_in(web, tree):
    """The names with one tie of a tree, in order."""
    tied = [name for tie in tree for name in web[1][tie][:2]]
    return tuple([name for name in web[0] if tied.count(name) == 1])


def names_along(web, way, start):
    """The names that a way leads along, from its first one on."""
    names = [start]
    for tie in way:
        one, other, _ = web[1][tie]
        names.append(other if names[-1] == one else one)
    return names


def cut_or_round(web, tree, tie):
    """The cut of a tie that is in a tree, the round of one that is not; as a tuple, rising."""
    if tie in tree:
        return tuple(cut_of(web, tree, tie))
    return tuple(sorted(way_beside(web, tree, tie) + (tie,)))
