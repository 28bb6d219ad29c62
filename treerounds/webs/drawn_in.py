"""A web without one of its ties, and with one drawn in."""

from treerounds.webs.parts import check_tie, in_order, web_of


def web_without(web, tie):
    """The web without the tie of a number, or NoTie."""
    check_tie(web, tie)
    names, ties = web
    return names, ties[:tie] + ties[tie + 1:]


def web_drawn_in(web, tie):
    """The web in which both names of a tie have become the first one, or NoTie."""
    check_tie(web, tie)
    names, ties = web
    kept, gone, _ = ties[tie]
    weights = {}
    for one, other, weight in ties[:tie] + ties[tie + 1:]:
        pair = in_order(name_after(one, kept, gone), name_after(other, kept, gone))
        weights[pair] = weights.get(pair, 0) + weight
    return web_of([name for name in names if name != gone], weights)


def name_after(name, kept, gone):
    """What a name is called when one name has become another."""
    return kept if name == gone else name
