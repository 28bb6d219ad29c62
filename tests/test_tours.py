"""Tours of even arrow webs, and their trees ([2], [3], [24], [25])."""

import copy
import itertools
import time
import unittest

from helper import (PLACES, Refusing, arrow_web, even_arrow_webs, great_arrow_web, plain_led,
                    small_arrow_webs)
from treerounds.errors import NoNumber, NoTie, NoTree
from treerounds.led.led_trees import led_trees
from treerounds.led.tours import count_tours, is_even, tour_of, tree_of_tour

ONE = (("a",), ())
# a-b 0, b-c 1, b-d 2, c-b 3, d-a 4; e has no arrows.
WEB = arrow_web(5, ["ab", "bc", "bd", "cb", "da"])
UNEVEN = arrow_web(3, ["ab", "ba", "bc"])
IN_TWO = arrow_web(4, ["ab", "ba", "cd", "dc"])
FAR = 10 ** 5000


def plain_even(web):
    """Whether an arrow web is even, by counting and walking both ways."""
    names, arrows = web
    for name in names:
        if len([1 for one, _ in arrows if one == name]) != len([1 for _, two in arrows if two == name]):
            return False
    used = [name for name in names if any(name in arrow for arrow in arrows)]
    reached = used[:1]
    for name in reached:
        for arrow in arrows:
            for one, other in (arrow, arrow[::-1]):
                if one == name and other not in reached:
                    reached.append(other)
    return len(reached) == len(used)


def plain_tours(web, row):
    """All tours that begin with a row of arrows, by going on along all that are not gone."""
    arrows = web[1]
    if len(row) == len(arrows):
        return [row] if arrows[row[-1]][1] == arrows[row[0]][0] else []
    return [tour for number in range(len(arrows))
            if number not in row and arrows[number][0] == arrows[row[-1]][1]
            for tour in plain_tours(web, row + (number,))]


def names_used(web):
    """The names that have arrows."""
    return tuple(name for name in web[0] if any(name in arrow for arrow in web[1]))


def plain_last(web, tour):
    """The last arrows of a tour from each name but the first one's."""
    arrows = web[1]
    last = {arrows[number][0]: number for number in tour}
    del last[arrows[tour[0]][0]]
    return tuple(sorted(last.values()))


class Even(unittest.TestCase):
    def test_known_webs(self):
        for web in (ONE, WEB, arrow_web(3, []), arrow_web(2, ["ab", "ba"]),
                    arrow_web(2, ["ab", "ab", "ba", "ba"]), arrow_web(5, ["bd", "db"])):
            self.assertIs(is_even(web), True)
        for web in (UNEVEN, IN_TWO, arrow_web(2, ["ab"]), arrow_web(2, ["ab", "ab"]),
                    arrow_web(2, ["ab", "ab", "ba"]), arrow_web(3, ["ab", "bc"]),
                    arrow_web(3, ["ab", "ac"]), arrow_web(4, ["ab", "cb", "cd", "ad"])):
            self.assertIs(is_even(web), False)

    def test_small_webs(self):
        seen = {True: 0, False: 0}
        for web in itertools.chain(small_arrow_webs(), even_arrow_webs()):
            self.assertIs(is_even(web), plain_even(web))
            seen[plain_even(web)] += 1
        self.assertGreater(min(seen.values()), 20)

    def test_all_even_webs_are(self):
        for web in even_arrow_webs():
            self.assertIs(is_even(web), True)


class Count(Refusing):
    def test_known_webs(self):
        self.assertEqual([count_tours(WEB, number) for number in range(5)], [1] * 5)
        self.assertEqual(count_tours(arrow_web(2, ["ab", "ba"]), 1), 1)
        # Three arrows there and three back: the others may go in any order, both ways.
        self.assertEqual(count_tours(arrow_web(2, ["ab", "ba"] * 3), 0), 2 * 6)

    def test_webs(self):
        for web in even_arrow_webs():
            for arrow in range(len(web[1])):
                self.assertEqual(count_tours(web, arrow), len(plain_tours(web, (arrow,))))

    def test_refused(self):
        for web in (ONE, WEB, UNEVEN, IN_TWO, arrow_web(3, [])):
            for number in (-1, -3, len(web[1]), 99, FAR, -FAR, True, False):
                # NoTie comes ahead of NoNumber.
                self.assert_refused(NoTie, count_tours, web, number)
                self.assert_refused(NoTie, tour_of, web, number, (0,))
        for web in (UNEVEN, IN_TWO):
            for number in range(len(web[1])):
                self.assert_refused(NoNumber, count_tours, web, number)

    def test_twelve_names_and_twenty_four_arrows(self):
        web = great_arrow_web()
        begun = time.perf_counter()
        self.assertIs(is_even(web), True)
        told = [count_tours(web, arrow) for arrow in range(24)]
        self.assertLess(time.perf_counter() - begun, 1)
        # Each tour may begin with any arrow, and here each name has two.
        self.assertEqual(told, [len(led_trees(web, "a"))] * 24)


class Tour(Refusing):
    def test_known_tours(self):
        self.assertEqual(tour_of(WEB, 0, (2, 3, 4)), (0, 1, 3, 2, 4))
        self.assertEqual(tour_of(WEB, 3, (0, 1, 4)), (3, 2, 4, 0, 1))
        self.assertEqual(tour_of(arrow_web(2, ["ab", "ba"]), 1, (0,)), (1, 0))
        # The least numbers first, the tree's arrow last.
        web = arrow_web(2, ["ab", "ba"] * 3)
        self.assertEqual(tour_of(web, 1, (3,)), (1, 4, 0, 5, 2, 3))
        self.assertEqual(tour_of(web, 1, (4,)), (1, 3, 0, 5, 2, 4))

    def test_webs(self):
        for web in even_arrow_webs():
            for arrow in range(len(web[1])):
                tours = plain_tours(web, (arrow,))
                for tree in plain_led(web, web[1][arrow][0], names_used(web)):
                    told = tour_of(web, arrow, tree)
                    self.assertIs(type(told), tuple)
                    self.assertIn(told, tours)
                    self.assertEqual(plain_last(web, told), tree)
                    # Of all tours that end so, the first one as tuples.
                    self.assertEqual(told, min(tour for tour in tours
                                               if plain_last(web, tour) == tree))
                    self.assertEqual(tree_of_tour(web, told), tree)

    def test_rows_that_are_no_such_trees(self):
        for arrow in range(5):
            start = WEB[1][arrow][0]
            good = plain_led(WEB, start, names_used(WEB))
            for size in range(5):
                for row in itertools.product(range(-1, 6), repeat=size):
                    if row not in good:
                        self.assert_refused(NoTree, tour_of, WEB, arrow, row)
            for row in good:
                for wrong in (row + (FAR,), row[:-1] + (FAR,), (-FAR,) + row[1:], row[:-1] + (True,)):
                    self.assert_refused(NoTree, tour_of, WEB, arrow, wrong)
        # A tree to another name, and one of all names where one has no arrows.
        self.assert_refused(NoTree, tour_of, arrow_web(3, ["ab", "bc", "ca"]), 0, (0, 2))

    def test_no_number_comes_ahead_of_no_tree(self):
        for web in (UNEVEN, IN_TWO):
            for row in ((), (0,), (9, 9), (1, 2)):
                self.assert_refused(NoNumber, tour_of, web, 0, row)
                self.assert_refused(NoNumber, tree_of_tour, web, row)

    def test_by_keywords_in_any_order(self):
        self.assertIs(is_even(web=WEB), True)
        self.assertEqual(count_tours(arrow=0, web=WEB), 1)
        self.assertEqual(tour_of(tree=(2, 3, 4), arrow=0, web=WEB), (0, 1, 3, 2, 4))
        self.assertEqual(tree_of_tour(tour=(0, 1, 3, 2, 4), web=WEB), (2, 3, 4))


class TreeOfTour(Refusing):
    def test_all_tours(self):
        for web in even_arrow_webs():
            for arrow in range(len(web[1])):
                led = plain_led(web, web[1][arrow][0], names_used(web))
                for tour in plain_tours(web, (arrow,)):
                    told = tree_of_tour(web, tour)
                    self.assertEqual(told, plain_last(web, tour))
                    self.assertIn(told, led)

    def test_begun_at_another_arrow(self):
        for web in even_arrow_webs():
            if web[1]:
                tour = plain_tours(web, (0,))[-1]
                for at in range(len(tour)):
                    turned = tour[at:] + tour[:at]
                    self.assertEqual(tree_of_tour(web, turned), plain_last(web, turned))

    def test_all_rows_of_a_small_web(self):
        web = arrow_web(3, ["ab", "ab", "ba", "ba"])
        good = [tour for arrow in range(4) for tour in plain_tours(web, (arrow,))]
        for size in range(6):
            for row in itertools.product(range(5), repeat=size):
                if row in good:
                    self.assertEqual(tree_of_tour(web, row), plain_last(web, row))
                else:
                    self.assert_refused(NoTree, tree_of_tour, web, row)

    def test_tours_with_a_fault(self):
        for web in even_arrow_webs():
            if not web[1]:
                continue
            tours = [tour for arrow in range(len(web[1])) for tour in plain_tours(web, (arrow,))]
            tour = tours[len(tours) // 2]
            faults = [(), tour[::-1], tour + tour, tour + tour[:1]]
            for at in range(len(tour)):
                faults += [tour[:at] + tour[at + 1:], tour[:at + 1] + tour[at:]]
                for wrong in (-1, len(tour), FAR, -FAR, tour[at] - len(tour), True):
                    faults.append(tour[:at] + (wrong,) + tour[at + 1:])
            for one, other in itertools.combinations(range(len(tour)), 2):
                row = list(tour)
                row[one], row[other] = row[other], row[one]
                faults.append(tuple(row))
                # A part, perhaps one that comes back, left out.
                faults.append(tour[:one] + tour[other:])
            for fault in faults:
                if fault in tours and True not in [type(number) is bool for number in fault]:
                    self.assertEqual(tree_of_tour(web, fault), plain_last(web, fault))
                else:
                    self.assert_refused(NoTree, tree_of_tour, web, fault)

    def test_without_arrows_there_are_no_tours(self):
        for web in (ONE, arrow_web(4, [])):
            for row in ((), (0,), (0, 0), (-1,)):
                self.assert_refused(NoTree, tree_of_tour, web, row)

    def test_a_great_tour(self):
        web = great_arrow_web()
        begun = time.perf_counter()
        trees = led_trees(web, "a")
        for tree in trees[::10]:
            self.assertEqual(tree_of_tour(web, tour_of(web, 0, tree)), tree)
        self.assertLess(time.perf_counter() - begun, 3)
        self.assertEqual(web[1][0], (PLACES[0], PLACES[1]))


class Unchanged(unittest.TestCase):
    def test_what_is_handed_in(self):
        web = copy.deepcopy(WEB)
        first = (is_even(web), count_tours(web, 1), tour_of(web, 0, (2, 3, 4)),
                 tree_of_tour(web, (0, 1, 3, 2, 4)))
        again = (is_even(web), count_tours(web, 1), tour_of(web, 0, (2, 3, 4)),
                 tree_of_tour(web, (0, 1, 3, 2, 4)))
        self.assertEqual(first, again)
        self.assertEqual(web, WEB)


if __name__ == "__main__":
    unittest.main()
