"""Tours of an even arrow web, which go along each arrow once and come back."""

from math import factorial

from treerounds.errors import NoNumber, NoTree
from treerounds.led.led_trees import arrows_from, count_led, is_led_tree
from treerounds.trees.joins import heads_of
from treerounds.webs.parts import check_tie, is_tie


def is_even(web):
    """Whether as many arrows lead to each name as from it, and all arrows hang together."""
    starts = [one for one, _ in web[1]]
    if sorted(starts) != sorted([other for _, other in web[1]]):
        return False
    heads = heads_of(web, list(range(len(web[1]))))
    return len({heads[name] for name in starts}) <= 1


def count_tours(web, arrow):
    """How many tours begin with an arrow, or NoTie, NoNumber."""
    check_even_at(web, arrow)
    toured = with_arrows(web)
    many = count_led(toured, web[1][arrow][0])
    for name in toured[0]:
        many *= factorial(len(arrows_from(web, name)) - 1)
    return many


def tour_of(web, arrow, tree):
    """The tour of an arrow and of a led tree to its first name, or NoTie, NoNumber, NoTree."""
    check_even_at(web, arrow)
    if not is_led_tree(with_arrows(web), web[1][arrow][0], tree):
        raise NoTree("this row is no led tree to the arrow's first name")
    tour = [arrow]
    while len(tour) < len(web[1]):
        here = web[1][tour[-1]][1]
        free = [number for number, _ in arrows_from(web, here) if number not in tour]
        tour.append(min(free, key=lambda number: (number in tree, number)))
    return tuple(tour)


def tree_of_tour(web, tour):
    """The led tree of a tour's last arrows from each name but the first, or NoNumber, NoTree."""
    check_even(web)
    if not is_tour(web, tour):
        raise NoTree("this row is no tour")
    last = {web[1][number][0]: number for number in tour}
    start = web[1][tour[0]][0]
    return tuple(sorted([last[name] for name in last if name != start]))


def check_even(web):
    """Refuse with NoNumber an arrow web that is not even."""
    if not is_even(web):
        raise NoNumber("the arrow web is not even")


def check_even_at(web, arrow):
    """Refuse with NoTie a number that is no arrow's, then with NoNumber a web that is not even."""
    check_tie(web, arrow)
    check_even(web)


def with_arrows(web):
    """An even arrow web without the names that have no arrows."""
    starts = [one for one, _ in web[1]]
    return tuple([name for name in web[0] if name in starts]), web[1]


def is_tour(web, row):
    """Whether a row of whole numbers goes along each arrow once and comes back."""
    if not row or not all(is_tie(web, number) for number in row):
        return False
    if sorted(row) != list(range(len(web[1]))):
        return False
    # The arrow ahead of the first one is the last one.
    return all([web[1][row[at - 1]][1] == web[1][row[at]][0] for at in range(len(row))])
