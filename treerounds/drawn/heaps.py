"""Heaps of arrows, popped until the top arrows lead each name to the root."""

from treerounds.errors import NoEnd
from treerounds.webs.parts import in_order


def popped(web, root, heaps):
    """The tree that popping leaves, and how many arrows are gone from each heap; or NoEnd."""
    gone = popping(web, root, heaps)[0]
    numbers = {(one, other): at for at, (one, other, _) in enumerate(web[1])}
    tops = tops_of(heaps, gone)
    return tuple(sorted([numbers[in_order(name, tops[name])] for name in tops])), gone


def pop_paper(web, root, heaps):
    """The rounds that are popped, in order, or NoEnd."""
    return popping(web, root, heaps)[1]


def pops_shown(web, root, heaps, rounds):
    """Whether a list of tuples is rounds of the top arrows in turn that leave none behind."""
    gone = none_gone(web, root)
    for names in rounds:
        if not is_round(tops_of(heaps, gone), names):
            return False
        take_off(gone, names)
    tops = tops_of(heaps, gone)
    return len(tops) == len(gone) and first_round(tops) is None


def popping(web, root, heaps):
    """How many arrows are gone from each heap at the end, and the rounds; or NoEnd."""
    gone, rounds = none_gone(web, root), []
    names = next_round(heaps, gone)
    while names is not None:
        rounds.append(names)
        take_off(gone, names)
        names = next_round(heaps, gone)
    return gone, rounds


def none_gone(web, root):
    """A dict by all names but the root that tells that no arrow is gone yet."""
    return {name: 0 for name in web[0] if name != root}


def take_off(gone, names):
    """Count one more arrow as gone for each of some names."""
    for name in names:
        gone[name] += 1


def tops_of(heaps, gone):
    """A dict of the top arrows; names whose heaps are at their end are not in it."""
    return {name: heaps[name][many] for name, many in gone.items() if many < len(heaps[name])}


def next_round(heaps, gone):
    """A round of the top arrows, or None where there is none; NoEnd where a heap is at its end."""
    tops = tops_of(heaps, gone)
    if len(tops) < len(gone):
        raise NoEnd("a heap is at its end")
    return first_round(tops)


def first_round(tops):
    """A round of the top arrows, or None where there is none."""
    for name in tops:
        names = round_behind(tops, name)
        if names is not None:
            return names
    return None


def round_behind(tops, name):
    """The round that the top arrows lead a name into, or None."""
    way = [name]
    while way[-1] in tops:
        there = tops[way[-1]]
        if there in way:
            return least_first(way[way.index(there):])
        way.append(there)
    return None


def least_first(names):
    """A round told as a tuple from its least name on."""
    at = names.index(min(names))
    return tuple(names[at:] + names[:at])


def is_round(tops, names):
    """Whether a tuple is a round of the top arrows, its least name first."""
    if not names or not all(name in tops for name in names):
        return False
    if len(set(names)) != len(names) or names[0] != min(names):
        return False
    return all([tops[one] == other for one, other in zip(names, names[1:] + names[:1])])
