"""Trees drawn by numbers and by fractions ([2], [3], [18])."""

import copy
import fractions
import time
import unittest

from helper import (Refusing, full_web, great_web, line_web, plain_trees, ring_web, small_webs,
                    web_of_pairs, weight_in)
from treerounds.drawn.drawn import drawn_by, drawn_share
from treerounds.errors import NoNumber
from treerounds.trees.counts import count_trees, number_of, tree_at, weigh_trees
from treerounds.webs.drawn_in import web_drawn_in

APART = web_of_pairs(4, ["ab", "cd"])
UNLIKE = (5, 3, 8, 1, 999, 2, 7)
FAR = 10 ** 5000


def told_fraction(value):
    """A fraction as the document has it."""
    return value.numerator, value.denominator


class ByNumber(Refusing):
    def test_small_webs(self):
        for web in small_webs(UNLIKE):
            for number, tree in enumerate(plain_trees(web)):
                self.assertEqual(drawn_by(web, number), tree)

    def test_edges(self):
        self.assertEqual(drawn_by((("a",), ()), 0), ())
        self.assertEqual(drawn_by(line_web(3), 0), (0, 1))

    def test_numbers_that_are_none(self):
        for web in small_webs():
            for number in (-1, -FAR, count_trees(web), count_trees(web) + 1, FAR):
                self.assert_refused(NoNumber, drawn_by, web, number)
        self.assert_refused(NoNumber, drawn_by, APART, 0)
        self.assert_refused(NoNumber, drawn_by, ring_web(3), True)

    def test_twelve_names_and_twenty_four_ties(self):
        web = great_web(UNLIKE)
        for number in (0, 1, 123456, count_trees(web) - 1):
            begun = time.perf_counter()
            tree = drawn_by(web, number)
            self.assertLess(time.perf_counter() - begun, 1)
            self.assertEqual(number_of(web, tree), number)


class ByFraction(Refusing):
    def check_web(self, web):
        """Each tree where its share begins, amid it, and just below where it ends."""
        whole, ahead = weigh_trees(web), 0
        for tree in plain_trees(web):
            begin = fractions.Fraction(ahead, whole)
            ahead += weight_in(web, tree)
            end = fractions.Fraction(ahead, whole)
            for value in (begin, (begin + end) / 2, (2 * begin + end) / 3,
                          begin + fractions.Fraction(1, 10 ** 40),
                          end - fractions.Fraction(1, 10 ** 40)):
                told = drawn_share(web, told_fraction(value))
                self.assertIs(type(told), tuple)
                self.assertEqual(told, tree)
        self.assertEqual(ahead, whole)

    def test_small_webs(self):
        for weights in (None, UNLIKE, (999, 1)):
            for web in small_webs(weights):
                self.check_web(web)

    def test_webs_with_ties_drawn_in(self):
        web = web_drawn_in(full_web(5, (999, 2)), 4)
        self.assertGreater(max(row[2] for row in web[1]), 999)
        self.check_web(web)

    def test_edges(self):
        for fraction in ((0, 1), (1, 2), (998, 999), (10 ** 300 - 1, 10 ** 300)):
            self.assertEqual(drawn_share((("a",), ()), fraction), ())
            self.assertEqual(drawn_share(line_web(3, (7, 9)), fraction), (0, 1))
        web = ring_web(3, (1, 2, 3))
        # The trees weigh 2, 3 and 6.
        self.assertEqual(drawn_share(web, (0, 1)), (0, 1))
        self.assertEqual(drawn_share(web, (2, 11)), (0, 2))
        self.assertEqual(drawn_share(web, (5, 11)), (1, 2))
        self.assertEqual(drawn_share(web, (10 ** 60 - 1, 10 ** 60)), (1, 2))

    def test_fractions_that_are_none(self):
        for web in (ring_web(3), (("a",), ()), full_web(4, UNLIKE), APART):
            for fraction in ((1, 1), (2, 1), (3, 2), (-1, 2), (-1, 1), (-1, 10 ** 40), (FAR, 1),
                             (FAR + 1, FAR), (-FAR, 1)):
                self.assert_refused(NoNumber, drawn_share, web, fraction)

    def test_pairs_that_are_no_fractions(self):
        for pair in ((2, 4), (0, 2), (0, 0), (1, 0), (-1, -2), (1, -2), (0, -1), (3, 9),
                     (False, 1), (0, True)):
            self.assert_refused(NoNumber, drawn_share, ring_web(3), pair)

    def test_no_tree(self):
        for fraction in ((0, 1), (1, 2), (1, 1), (-1, 2)):
            self.assert_refused(NoNumber, drawn_share, APART, fraction)
            self.assert_refused(NoNumber, drawn_share, (("a", "b"), ()), fraction)

    def test_twelve_names_and_twenty_four_ties(self):
        web = great_web()
        many = count_trees(web)
        for number in (0, 1, 99, 54321, many - 1):
            begun = time.perf_counter()
            tree = drawn_share(web, told_fraction(fractions.Fraction(number, many)))
            self.assertLess(time.perf_counter() - begun, 1)
            self.assertEqual(tree, tree_at(web, number))
        self.assertLess(drawn_share(great_web(UNLIKE), (1, 3)),
                        drawn_share(great_web(UNLIKE), (2, 3)))


class Unchanged(unittest.TestCase):
    def test_what_is_handed_in(self):
        web = full_web(4, UNLIKE)
        kept = copy.deepcopy(web)
        first = (drawn_by(web, 5), drawn_share(web, (2, 7)))
        self.assertEqual((drawn_by(web, 5), drawn_share(web, (2, 7))), first)
        self.assertEqual(web, kept)


if __name__ == "__main__":
    unittest.main()
