"""As few forests as hold each tie of a web once, and names among which ties lie thickest."""

from itertools import combinations

from treerounds.apart.packing import forests_at, shared_out, sought
from treerounds.shares.fraction import in_least_terms
from treerounds.trees.trees import is_forest, rises


def few_forests(web):
    """As few forests as hold each tie once, and names that show that fewer do not."""
    if not web[1]:
        return (), ()
    many, names = 1, ()
    homes, left = shared_out(web, many)
    while left:
        # In each forest all these names hang together by the ties met here, and still there is
        # one more tie among them.
        met = sought(web, homes, many, left[:1])[0]
        names = tuple(sorted({name for tie in met for name in web[1][tie][:2]}))
        many += 1
        homes, left = shared_out(web, many)
    return forests_at(homes, many), names


def forests_shown(web, forests, names):
    """Whether forests hold each tie once, and names show that fewer do not."""
    if not all(is_forest(web, forest) for forest in forests):
        return False
    if sorted([tie for forest in forests for tie in forest]) != list(range(len(web[1]))):
        return False
    if len(forests) < 2:
        # Without ties no forest is needed.
        return names == () and () not in forests
    return is_crowd(web, len(forests) - 1, names)


def thickest(web):
    """The most ties among some names for each name less one, and the first such names; or None.

    All rows of names are gone through: of twelve names there are some four thousand.
    """
    if not web[1]:
        return None
    names = list(web[0])
    most, beside, crowd = 0, 1, ()
    for size in range(2, len(names) + 1):
        for some in combinations(names, size):
            lying = ties_among(web, some)
            if lying * beside > most * (size - 1):
                most, beside, crowd = lying, size - 1, some
    return in_least_terms(most, beside), crowd


def is_crowd(web, many, names):
    """Whether more ties lie among some names of a web than so many forests can hold."""
    if len(names) < 2 or not all(name in web[0] for name in names) or not rises(names):
        return False
    return ties_among(web, names) > many * (len(names) - 1)


def ties_among(web, names):
    """How many ties lie among some names."""
    return len([True for one, other, _ in web[1] if one in names and other in names])
