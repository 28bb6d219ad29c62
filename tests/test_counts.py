"""Trees counted, weighed, by their numbers ([2], [9], [10])."""

import copy
import random
import time
import unittest

from helper import (Refusing, full_web, great_web, line_web, plain_trees, ring_web, small_webs,
                    web_of_pairs, weight_in)
from treerounds.errors import NoNumber, NoTie, NoTree
from treerounds.trees.counts import count_trees, count_with, number_of, tree_at, weigh_trees
from treerounds.trees.tables import determinant
from treerounds.trees.trees import is_tree
from treerounds.webs.drawn_in import web_drawn_in, web_without

UNLIKE = (1, 999, 7, 32, 500)
FAR = 10 ** 5000


def drawn_in_often(web, times):
    """A web with its first tie drawn in again and again."""
    for _ in range(times):
        web = web_drawn_in(web, 0)
    return web


class Counts(unittest.TestCase):
    def test_known_webs(self):
        self.assertEqual(count_trees((("a",), ())), 1)
        self.assertEqual(count_trees((("a", "b"), ())), 0)
        self.assertEqual(count_trees((("a", "b"), (("a", "b", 9),))), 1)
        for many in range(2, 13):
            self.assertEqual(count_trees(line_web(many)), 1)
        for many in range(3, 13):
            self.assertEqual(count_trees(ring_web(many, UNLIKE)), many)
        for many in range(2, 8):
            self.assertEqual(count_trees(full_web(many, UNLIKE)), many ** (many - 2))
        two_threes = web_of_pairs(6, ["ab", "bc", "ac", "de", "ef", "df"])
        self.assertEqual(count_trees(two_threes), 0)
        self.assertEqual(weigh_trees(two_threes), 0)

    def test_small_webs(self):
        for web in small_webs(UNLIKE):
            trees = plain_trees(web)
            self.assertEqual(count_trees(web), len(trees))
            self.assertEqual(weigh_trees(web), sum(weight_in(web, tree) for tree in trees))
            self.assertIs(type(count_trees(web)), int)

    def test_weights(self):
        self.assertEqual(weigh_trees((("a",), ())), 1)
        self.assertEqual(weigh_trees((("a", "b"), ())), 0)
        self.assertEqual(weigh_trees((("a", "b"), (("a", "b", 9),))), 9)
        self.assertEqual(weigh_trees(line_web(4, (2, 3, 5))), 30)
        self.assertEqual(weigh_trees(ring_web(3, (2, 3, 5))), 6 + 10 + 15)

    def test_with_and_without(self):
        self.assertEqual(count_with(ring_web(4), 0), (3, 1))
        self.assertEqual(count_with(line_web(4), 0), (1, 0))
        self.assertEqual(count_with(web_of_pairs(4, ["ab", "cd"]), 1), (0, 0))
        for web in small_webs(UNLIKE):
            trees = plain_trees(web)
            for tie in range(len(web[1])):
                many = sum(tie in tree for tree in trees)
                self.assertEqual(count_with(web, tie), (many, len(trees) - many))

    def test_webs_with_ties_drawn_in(self):
        web = full_web(6, UNLIKE)
        for times in range(6):
            drawn = drawn_in_often(web, times)
            trees = plain_trees(drawn)
            self.assertEqual(count_trees(drawn), len(trees))
            self.assertEqual(weigh_trees(drawn), sum(weight_in(drawn, tree) for tree in trees))
            for tie in range(len(drawn[1])):
                many = sum(tie in tree for tree in trees)
                self.assertEqual(count_with(drawn, tie), (many, len(trees) - many))

    def test_weights_above_nine_hundred_ninety_nine(self):
        web = drawn_in_often(full_web(5, (999,)), 3)
        self.assertEqual(web[1], ((web[0][0], web[0][1], 3996),))
        self.assertEqual((count_trees(web), weigh_trees(web)), (1, 3996))

    def test_drawing_in_parts_the_weights(self):
        web = great_web(UNLIKE)
        for tie in range(24):
            drawn = web[1][tie][2] * weigh_trees(web_drawn_in(web, tie))
            self.assertEqual(drawn + weigh_trees(web_without(web, tie)), weigh_trees(web))

    def test_twelve_names_and_twenty_four_ties(self):
        begun = time.perf_counter()
        # Twelve times the square of a Fibonacci number: the trees of a ring squared.
        self.assertEqual(count_trees(great_web()), 12 * 144 ** 2)
        self.assertGreater(weigh_trees(great_web((999,))), 998 ** 11 * 12 * 144 ** 2)
        self.assertLess(time.perf_counter() - begun, 1)


class Determinants(unittest.TestCase):
    def test_tables(self):
        self.assertEqual(determinant([]), 1)
        self.assertEqual(determinant([[-7]]), -7)
        self.assertEqual(determinant([[0, 2], [3, 5]]), -6)
        self.assertEqual(determinant([[0, 1, 0], [0, 0, 1], [1, 0, 0]]), 1)
        self.assertEqual(determinant([[0, 1], [0, 2]]), 0)
        self.assertEqual(determinant([[2, 0, 1], [4, 0, 5], [1, 3, 1]]), -18)

    def test_the_table_is_not_changed(self):
        table = [[0, 2], [3, 5]]
        determinant(table)
        self.assertEqual(table, [[0, 2], [3, 5]])


class ByNumber(Refusing):
    def test_small_webs(self):
        for web in small_webs(UNLIKE):
            for number, tree in enumerate(plain_trees(web)):
                self.assertEqual(tree_at(web, number), tree)
                self.assertIs(type(tree_at(web, number)), tuple)
                self.assertEqual(number_of(web, tree), number)

    def test_numbers_that_are_none(self):
        for web in small_webs():
            many = count_trees(web)
            for number in (-1, -2, -many, -many - 1, many, many + 1, FAR, -FAR):
                if not 0 <= number < many:
                    self.assert_refused(NoNumber, tree_at, web, number)
        self.assert_refused(NoNumber, tree_at, ring_web(3), False)
        self.assert_refused(NoNumber, tree_at, ring_web(3), True)
        for number in (-1, 0, 1):
            self.assert_refused(NoNumber, tree_at, (("a", "b"), ()), number)

    def test_rows_that_are_no_trees(self):
        web = ring_web(4)
        for row in ((), (0,), (0, 1), (1, 0, 2), (0, 1, 1), (0, 1, 2, 3), (-1, 0, 1), (0, 1, 4)):
            self.assert_refused(NoTree, number_of, web, row)
        self.assert_refused(NoTree, number_of, (("a", "b"), ()), ())
        self.assert_refused(NoTree, number_of, full_web(4), (0, 1, 3))

    def test_ties_that_are_none(self):
        for tie in (-1, -4, 4, 5, FAR, -FAR, True, False):
            self.assert_refused(NoTie, count_with, ring_web(4), tie)
        self.assert_refused(NoTie, count_with, (("a",), ()), 0)

    def test_webs_with_ties_drawn_in(self):
        web = web_drawn_in(full_web(6, (999,)), 3)
        self.assertGreater(max(row[2] for row in web[1]), 999)
        for number, tree in enumerate(plain_trees(web)):
            self.assertEqual(tree_at(web, number), tree)
            self.assertEqual(number_of(web, tree), number)

    def test_twelve_names_and_twenty_four_ties(self):
        web = great_web(UNLIKE)
        many = count_trees(web)
        chosen = random.Random(7)
        ahead = None
        for number in sorted([0, 1, many - 1] + [chosen.randrange(many) for _ in range(20)]):
            begun = time.perf_counter()
            tree = tree_at(web, number)
            self.assertEqual(number_of(web, tree), number)
            self.assertLess(time.perf_counter() - begun, 1)
            self.assertTrue(is_tree(web, tree))
            self.assertTrue(ahead is None or ahead < tree)
            ahead = tree


class Unchanged(unittest.TestCase):
    def test_what_is_handed_in(self):
        web = full_web(5, UNLIKE)
        kept = copy.deepcopy(web)
        answers = (count_trees(web), weigh_trees(web), count_with(web, 2), tree_at(web, 77))
        number_of(web, tree_at(web, 77))
        self.assertEqual(web, kept)
        again = (count_trees(web), weigh_trees(web), count_with(web, 2), tree_at(web, 77))
        self.assertEqual(again, answers)


if __name__ == "__main__":
    unittest.main()
