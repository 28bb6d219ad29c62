"""Full trees of some names, as pairs of names, and their words."""

from math import factorial

from treerounds.errors import NoNumber, NoTree
from treerounds.trees.joins import without_rounds
from treerounds.trees.trees import rises
from treerounds.webs.parts import check_names, in_order, is_whole


def word_of(names, tree):
    """The word of a full tree, or NoTree."""
    if not is_full_tree(names, tree):
        raise NoTree("these pairs are no full tree of the names")
    left, word = list(tree), []
    while len(left) > 1:
        tied = [name for pair in left for name in pair]
        least = min([name for name in tied if tied.count(name) == 1])
        gone = [pair for pair in left if least in pair][0]
        word.append(gone[1] if least == gone[0] else gone[0])
        left.remove(gone)
    return tuple(word)


def tree_of(names, word):
    """The full tree of a word, or NoName, NoNumber."""
    check_names((names, ()), word)
    if len(word) != len(names) - 2:
        raise NoNumber("a word has two names less than there are")
    # A name is told once for each of its ties but the one by which it is taken away.
    ties = {name: 1 + word.count(name) for name in names}
    pairs = []
    for there in word:
        least = min([name for name in names if ties[name] == 1])
        pairs.append(in_order(least, there))
        ties[least] -= 1
        ties[there] -= 1
    one, other = [name for name in names if ties[name] == 1]
    return tuple(sorted(pairs + [in_order(one, other)]))


def count_full(many):
    """How many full trees there are of so many names."""
    words = 1
    for _ in range(many - 2):
        words *= many
    return words


def count_full_with(names, ties):
    """How many full trees there are in which each name has a told number of ties."""
    told = [ties[name] for name in names]
    if min(told) < 1 or sum(told) != 2 * len(names) - 2:
        return 0
    # So many words there are in which each name stands once for each of its ties but one.
    words = factorial(len(names) - 2)
    for many in told:
        words //= factorial(many - 1)
    return words


def full_tree_at(names, number):
    """The full tree whose word has a number, words in order, or NoNumber."""
    if not is_whole(number) or not 0 <= number < count_full(len(names)):
        raise NoNumber("no word has this number")
    word = []
    while len(word) < len(names) - 2:
        number, at = divmod(number, len(names))
        word.append(names[at])
    return tree_of(names, tuple(word[::-1]))


def is_full_tree(names, pairs):
    """Whether a tuple of pairs of names is a full tree of some names."""
    if len(pairs) != len(names) - 1:
        return False
    if not all(one in names and other in names and one < other for one, other in pairs):
        return False
    return rises(pairs) and len(without_rounds((names, pairs), list(range(len(pairs))))) == len(pairs)
