"""What all that makes or takes a web has in common."""

from treerounds.errors import NoTie


def in_order(one, other):
    """Two names as a pair, the first ahead in order of letters."""
    return (one, other) if one < other else (other, one)


def web_of(names, weights):
    """The web of some names and of a dict of weights by pairs of names, both in any order."""
    ties = [(one, other, weights[one, other]) for one, other in sorted(weights)]
    return tuple(sorted(names)), tuple(ties)


def check_tie(web, number):
    """Refuse with NoTie a number that is none of the web's ties."""
    # A truth would pass as 0 or 1, but it is no whole number.
    is_whole = isinstance(number, int) and not isinstance(number, bool)
    if not is_whole or not 0 <= number < len(web[1]):
        # The message leaves the number out: Python does not write out very great ones.
        raise NoTie("no tie has this number")
