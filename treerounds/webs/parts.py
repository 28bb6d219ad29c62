"""What all that makes or takes a web has in common."""

from treerounds.errors import NoName, NoTie


def in_order(one, other):
    """Two names as a pair, the first ahead in order of letters."""
    return (one, other) if one < other else (other, one)


def web_of(names, weights):
    """The web of some names and of a dict of weights by pairs of names, both in any order."""
    ties = [(one, other, weights[one, other]) for one, other in sorted(weights)]
    return tuple(sorted(names)), tuple(ties)


def is_whole(number):
    """Whether something is a whole number."""
    # A truth would pass as 0 or 1, but it is no whole number.
    return isinstance(number, int) and not isinstance(number, bool)


def is_tie(web, number):
    """Whether something is the number of one of the web's ties."""
    return is_whole(number) and 0 <= number < len(web[1])


def check_tie(web, number):
    """Refuse with NoTie a number that is none of the web's ties."""
    if not is_tie(web, number):
        # The message leaves the number out: Python does not write out very great ones.
        raise NoTie("no tie has this number")


def check_names(web, words):
    """Refuse with NoName the first of some words that is none of the web's names."""
    for word in words:
        if word not in web[0]:
            raise NoName(word)
