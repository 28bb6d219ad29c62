"""Trees, ways and exchanges ([2], [3], [6], [7], [8])."""

import copy
import itertools
import time
import unittest

from helper import (Refusing, all_webs, apart, full_web, great_web, line_web, plain_exchanges,
                          plain_trees, ring_web, small_webs, spans)
from treerounds.errors import NoTie, NoTree
from treerounds.trees.joins import without_rounds
from treerounds.trees.orders import first_tree
from treerounds.trees.trees import (exchanged, exchanges_between, exchanges_of, is_tree, way_in)
from treerounds.webs.drawn_in import web_drawn_in

# a-b 0, a-c 1, a-d 2, b-c 3, c-d 4.
WEB = (("a", "b", "c", "d"),
       (("a", "b", 7), ("a", "c", 1), ("a", "d", 2), ("b", "c", 3), ("c", "d", 4)))
TREE = (0, 1, 2)
NO_TREES = ((), (0,), (0, 1), (0, 1, 3), (0, 1, 2, 3), (0, 1, 2, 4), (2, 1, 0), (0, 2, 1),
            (0, 0, 1), (0, 1, 1), (0, 1, 1, 2), (-1, 0, 1), (-5, -4, -3), (0, 1, 5), (0, 1, 99),
            (5, 6, 7), (0, 1, 10 ** 5000), (-10 ** 5000, 0, 1))


class IsTree(unittest.TestCase):
    def test_all_rows_of_small_webs(self):
        for web in small_webs():
            if len(web[0]) > 4:
                continue
            trees = plain_trees(web)
            for size in range(len(web[0]) + 1):
                for row in itertools.product(range(-1, len(web[1]) + 1), repeat=size):
                    self.assertIs(is_tree(web, row), row in trees, (web, row))

    def test_all_rising_rows_of_webs_of_five_and_six(self):
        for web in small_webs():
            trees = plain_trees(web)
            for row in itertools.combinations(range(len(web[1])), len(web[0]) - 1):
                self.assertIs(is_tree(web, row), row in trees, (web, row))

    def test_one_name(self):
        web = (("a",), ())
        self.assertIs(is_tree(web, ()), True)
        for row in ((0,), (-1,), (0, 1)):
            self.assertIs(is_tree(web, row), False)

    def test_rows_that_are_none(self):
        for row in NO_TREES:
            self.assertIs(is_tree(WEB, row), False, str(len(row)))

    def test_truths_are_no_numbers(self):
        self.assertIs(is_tree(WEB, (False, True, 2)), False)

    def test_all_in_any_order(self):
        for row in itertools.permutations(TREE):
            self.assertIs(is_tree(WEB, row), row == TREE)

    def test_as_many_ties_as_a_tree_that_do_not_reach_all(self):
        web = (("a", "b", "c", "d"), (("a", "b", 1), ("a", "c", 1), ("b", "c", 1)))
        self.assertIs(is_tree(web, (0, 1, 2)), False)


class Way(Refusing):
    def test_ways(self):
        self.assertEqual(way_in(WEB, (0, 1, 4), "b", "d"), (0, 1, 4))
        self.assertEqual(way_in(WEB, (0, 1, 4), "d", "b"), (4, 1, 0))
        self.assertEqual(way_in(WEB, (0, 1, 4), "a", "d"), (1, 4))
        self.assertEqual(way_in(WEB, (2, 3, 4), "a", "b"), (2, 4, 3))
        self.assertEqual(way_in((("a",), ()), (), "a", "a"), ())

    def test_all_ways_in_small_webs(self):
        for web in small_webs():
            for tree in plain_trees(web)[:40]:
                for one, other in itertools.product(web[0], repeat=2):
                    self.check_way(web, tree, one, other, way_in(web, tree, one, other))

    def check_way(self, web, tree, one, other, way):
        self.assertIs(type(way), tuple)
        self.assertEqual(len(set(way)), len(way))
        self.assertLessEqual(set(way), set(tree))
        here = one
        for tie in way:
            ends = web[1][tie][:2]
            self.assertIn(here, ends)
            here = ends[1] if here == ends[0] else ends[0]
        self.assertEqual(here, other)

    def test_rows_that_are_no_trees(self):
        for row in NO_TREES:
            self.assert_refused(NoTree, way_in, WEB, row, "a", "b")
            # NoTree comes first.
            self.assert_refused(NoTree, way_in, WEB, row, "x", "y")

    def test_names_that_are_none(self):
        self.assert_no_name("x", way_in, WEB, TREE, "x", "y")
        self.assert_no_name("y", way_in, WEB, TREE, "a", "y")
        self.assert_no_name("x", way_in, WEB, TREE, "x", "a")
        self.assert_no_name("x", way_in, WEB, TREE, "x", "x")
        self.assert_no_name("", way_in, WEB, TREE, "a", "")
        self.assert_no_name("ab", way_in, WEB, TREE, "ab", "a")
        self.assert_no_name("b", way_in, (("a",), ()), (), "a", "b")

    def test_a_web_without_trees(self):
        self.assert_refused(NoTree, way_in, (("a", "b"), ()), (), "a", "a")


class Exchanges(Refusing):
    def test_exchanges(self):
        self.assertEqual(exchanges_of(WEB, TREE), [(0, 3), (1, 3), (1, 4), (2, 4)])
        self.assertEqual(exchanges_of((("a",), ()), ()), [])
        self.assertEqual(exchanges_of(line_web(5), (0, 1, 2, 3)), [])
        self.assertEqual(exchanges_of(ring_web(3), (0, 2)), [(0, 1), (2, 1)])

    def test_all_trees_of_small_webs(self):
        for web in small_webs():
            trees = plain_trees(web)
            for tree in trees[:60]:
                told = exchanges_of(web, tree)
                self.assertIs(type(told), list)
                self.assertEqual(told, plain_exchanges(trees, tree))
                for out, put in told:
                    there = tuple(sorted(set(tree) - {out} | {put}))
                    self.assertEqual(exchanged(web, tree, (out, put)), there)

    def test_all_other_pairs_are_no_exchanges(self):
        for web in all_webs(4):
            for tree in plain_trees(web):
                good = exchanges_of(web, tree)
                for pair in itertools.product(range(-2, len(web[1]) + 2), repeat=2):
                    if pair not in good:
                        self.assert_refused(NoTie, exchanged, web, tree, pair)

    def test_wrong_exchanges(self):
        for pair in ((0, 0), (3, 3), (0, 1), (3, 0), (0, 4), (0, 5), (5, 3), (0, -2), (-5, 3),
                     (0, 10 ** 5000), (10 ** 5000, 3), (-1, -1), (False, 3)):
            self.assert_refused(NoTie, exchanged, WEB, TREE, pair)
        self.assert_refused(NoTie, exchanged, (("a",), ()), (), (0, 0))

    def test_rows_that_are_no_trees(self):
        for row in NO_TREES:
            self.assert_refused(NoTree, exchanges_of, WEB, row)
            self.assert_refused(NoTree, exchanged, WEB, row, (0, 3))
            # NoTree comes first.
            self.assert_refused(NoTree, exchanged, WEB, row, (9, 9))


class Between(Refusing):
    def test_exchanges_between(self):
        self.assertEqual(exchanges_between(WEB, TREE, TREE), ())
        self.assertEqual(exchanges_between(WEB, (0, 1, 2), (2, 3, 4)), ((0, 3), (1, 4)))
        self.assertEqual(exchanges_between(WEB, (2, 3, 4), (0, 1, 2)), ((3, 0), (4, 1)))
        self.assertEqual(exchanges_between(WEB, (0, 1, 2), (0, 3, 4)), ((1, 3), (2, 4)))
        # The first tie that goes out takes the first that makes a tree, which is not the first.
        self.assertEqual(exchanges_between(WEB, (0, 1, 4), (2, 3, 4)), ((0, 3), (1, 2)))
        self.assertEqual(exchanges_between((("a",), ()), (), ()), ())

    def test_all_pairs_of_trees_of_small_webs(self):
        for web in small_webs():
            trees = plain_trees(web)
            for one, other in itertools.product(trees[:30], trees[-30:]):
                self.check_between(web, one, other, exchanges_between(web, one, other))

    def check_between(self, web, one, other, told):
        self.assertIs(type(told), tuple)
        self.assertEqual(len(told), apart(one, other))
        now = set(one)
        for out, put in told:
            self.assertEqual(out, min(now - set(other)))
            fits = [tie for tie in other if tie not in now and spans(web, now - {out} | {tie})]
            self.assertEqual(put, fits[0])
            now = now - {out} | {put}
        self.assertEqual(tuple(sorted(now)), other)

    def test_rows_that_are_no_trees(self):
        for row in NO_TREES:
            self.assert_refused(NoTree, exchanges_between, WEB, row, TREE)
            self.assert_refused(NoTree, exchanges_between, WEB, TREE, row)
            self.assert_refused(NoTree, exchanges_between, WEB, row, row)

    def test_twelve_names_and_twenty_four_ties(self):
        web = great_web()
        one = first_tree(web)
        order = sorted(range(24), key=lambda tie: (tie in one, tie))
        other = tuple(sorted(without_rounds(web, order)))
        begun = time.perf_counter()
        told = exchanges_between(web, one, other)
        self.assertLess(time.perf_counter() - begun, 1)
        self.assertGreater(len(told), 7)
        self.check_between(web, one, other, told)


class Unchanged(unittest.TestCase):
    def test_what_is_handed_in_and_told(self):
        web = copy.deepcopy(WEB)
        first = exchanges_of(web, TREE)
        kept = list(first)
        first.clear()
        self.assertEqual(exchanges_of(web, TREE), kept)
        exchanged(web, TREE, (0, 3))
        exchanges_between(web, TREE, (2, 3, 4))
        way_in(web, TREE, "a", "b")
        self.assertEqual(web, WEB)

    def test_webs_with_ties_drawn_in(self):
        web = web_drawn_in(full_web(5, (999,)), 0)
        trees = plain_trees(web)
        self.assertGreater(max(row[2] for row in web[1]), 999)
        self.assertTrue(all(is_tree(web, tree) for tree in trees))
        for tree in trees:
            self.assertEqual(exchanges_of(web, tree), plain_exchanges(trees, tree))


if __name__ == "__main__":
    unittest.main()
