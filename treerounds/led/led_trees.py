"""Trees of an arrow web that are led to a root: told, and counted by a table."""

from treerounds.trees.joins import apart_heads, joined
from treerounds.trees.tables import determinant
from treerounds.trees.trees import is_forest
from treerounds.webs.parts import check_names


def led_trees(web, root):
    """All led trees to a root, in order, or NoName."""
    check_names(web, (root,))
    rows = [((), apart_heads(web[0]))]
    for name in names_but(web, root):
        # Where each name but the root has an arrow, and there is no way round, all come to the root.
        rows = [(row + (number,), joined(heads, name, there)) for row, heads in rows
                for number, there in arrows_from(web, name) if heads[name] != heads[there]]
    return sorted([tuple(sorted(row)) for row, _ in rows])


def count_led(web, root):
    """How many led trees to a root there are, or NoName."""
    check_names(web, (root,))
    others = names_but(web, root)
    return determinant([[entry_of(web, one, other) for other in others] for one in others])


def is_led_tree(web, root, row):
    """Whether a row of whole numbers is a led tree to a root."""
    if not is_forest(web, row):
        return False
    return sorted([web[1][number][0] for number in row]) == names_but(web, root)


def names_but(web, root):
    """The names but the root, in order."""
    return [name for name in web[0] if name != root]


def arrows_from(web, name):
    """The arrows from a name, in order, as pairs (number, name that it leads to)."""
    return [(number, there) for number, (one, there) in enumerate(web[1]) if one == name]


def entry_of(web, one, other):
    """What stands in the table for two names: the arrows from one, less those to the other."""
    ends = [there for _, there in arrows_from(web, one)]
    return len(ends) if one == other else -ends.count(other)
