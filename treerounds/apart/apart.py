"""Trees no two of which share a tie, or partings that show that there are none."""

from treerounds.apart.packing import forests_at, shared_out, sought
from treerounds.trees.joins import heads_of
from treerounds.trees.trees import is_tree, rises


def trees_apart(web, many):
    """("trees", so many trees apart), or ("parting", parting) where there are none."""
    homes, left = shared_out(web, many)
    if len(homes) == many * (len(web[0]) - 1):
        return "trees", forests_at(homes, many)
    # In each forest all names hang together that do so by the ties met here, and all other ties
    # have a home: so these are too few to join the parts so many times.
    met = sought(web, homes, many, left)[0]
    return "parting", parts_of(web, heads_of(web, list(met)))


def apart_shown(web, many, told):
    """Whether a pair of a text and a tuple of tuples is right as so many trees apart or a parting."""
    word, rows = told
    if word == "trees":
        return len(rows) == many and are_apart(web, rows)
    return word == "parting" and is_parting(web, rows) and is_thin(web, many, rows)


def most_apart(web):
    """How many trees apart there are at most, and 4 of one name."""
    if len(web[0]) == 1:
        return 4
    many = 0
    while trees_apart(web, many + 1)[0] == "trees":
        many += 1
    return many


def parts_of(web, heads):
    """The parting into the parts of some heads."""
    parts = {}
    for name in web[0]:
        parts.setdefault(heads[name], []).append(name)
    return tuple([tuple(part) for part in parts.values()])


def are_apart(web, rows):
    """Whether rows of whole numbers are trees no two of which share a tie."""
    if not all(is_tree(web, row) for row in rows):
        return False
    ties = [tie for row in rows for tie in row]
    return len(set(ties)) == len(ties)


def is_parting(web, parts):
    """Whether tuples of names are a parting: each name in one, all in order, no part empty."""
    told = [name for part in parts for name in part]
    if () in parts or not all(name in web[0] for name in told) or sorted(told) != list(web[0]):
        return False
    return all(rises(part) for part in parts) and rises([part[0] for part in parts])


def is_thin(web, many, parts):
    """Whether fewer ties lead from part to part than so many trees apart would need."""
    places = {name: at for at, part in enumerate(parts) for name in part}
    between = [True for one, other, _ in web[1] if places[one] != places[other]]
    return len(between) < many * (len(parts) - 1)
