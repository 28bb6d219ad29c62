"""All trees in order ([2], [3], [11], [12])."""

import copy
import itertools
import time
import unittest

from helper import (Refusing, all_webs, full_web, great_web, line_web, plain_trees, ring_web,
                    small_webs, web_of_pairs)
from treerounds.errors import NoTree
from treerounds.trees.counts import number_of, tree_at
from treerounds.trees.orders import all_shown, all_trees, next_tree
from treerounds.webs.drawn_in import web_drawn_in

APART = web_of_pairs(4, ["ab", "cd"])


class AllTrees(unittest.TestCase):
    def test_edges(self):
        self.assertEqual(all_trees((("a",), ())), [()])
        self.assertEqual(all_trees((("a", "b"), ())), [])
        self.assertEqual(all_trees((("a", "b"), (("a", "b", 3),))), [(0,)])
        self.assertEqual(all_trees(APART), [])
        self.assertEqual(all_trees(line_web(12)), [tuple(range(11))])
        self.assertEqual(all_trees(ring_web(3)), [(0, 1), (0, 2), (1, 2)])

    def test_small_webs(self):
        for web in small_webs((3, 1, 2)):
            told = all_trees(web)
            self.assertIs(type(told), list)
            self.assertEqual(told, plain_trees(web))

    def test_webs_with_ties_drawn_in(self):
        web = web_drawn_in(full_web(5, (999,)), 2)
        self.assertEqual(all_trees(web), plain_trees(web))

    def test_some_three_hundred_trees(self):
        # Five rings of three, each hung on the next.
        web = web_of_pairs(11, ["ab", "bc", "ac", "cd", "de", "ce", "ef", "fg", "eg", "gh", "hi",
                                "gi", "ij", "jk", "ik"])
        begun = time.perf_counter()
        told = all_trees(web)
        self.assertLess(time.perf_counter() - begun, 1)
        self.assertEqual(told, plain_trees(web))
        self.assertEqual(len(told), 3 ** 5)


class Next(Refusing):
    def test_small_webs(self):
        for web in small_webs():
            trees = plain_trees(web)
            for tree, behind in zip(trees, trees[1:] + [None]):
                self.assertEqual(next_tree(web, tree), behind)

    def test_edges(self):
        self.assertIsNone(next_tree((("a",), ()), ()))
        self.assertIsNone(next_tree(line_web(3), (0, 1)))
        self.assertEqual(next_tree(ring_web(3), (0, 1)), (0, 2))

    def test_rows_that_are_no_trees(self):
        for row in ((), (0,), (0, 1), (1, 0, 2), (0, 0, 1), (0, 1, 2, 3), (-1, 0, 1), (0, 1, 4)):
            self.assert_refused(NoTree, next_tree, ring_web(4), row)
        self.assert_refused(NoTree, next_tree, (("a", "b"), ()), ())
        self.assert_refused(NoTree, next_tree, APART, (0, 1))

    def test_twelve_names_and_twenty_four_ties(self):
        web = great_web()
        for number in (0, 1, 99999, 100000, 200000):
            tree = tree_at(web, number)
            begun = time.perf_counter()
            behind = next_tree(web, tree)
            self.assertLess(time.perf_counter() - begun, 1)
            self.assertEqual(number_of(web, behind), number + 1)
        self.assertIsNone(next_tree(web, tree_at(web, 12 * 144 ** 2 - 1)))


class Shown(unittest.TestCase):
    def test_all_trees_are_let_by(self):
        for web in small_webs():
            self.assertIs(all_shown(web, plain_trees(web)), True)

    def test_of_no_trees(self):
        self.assertIs(all_shown(APART, []), True)
        self.assertIs(all_shown((("a",), ()), []), False)
        self.assertIs(all_shown((("a",), ()), [()]), True)
        self.assertIs(all_shown(ring_web(3), []), False)
        for wrong in ([()], [(0,)], [(0, 1)], [(0, 1, 2)]):
            self.assertIs(all_shown(APART, wrong), False)

    def test_all_other_lists_of_small_webs(self):
        for web in all_webs(3):
            trees = plain_trees(web)
            rows = [(0, 1), (0, 2), (1, 2), (2, 1), (), (0,), (0, 0), (-1, 0), (0, 1, 2)]
            for size in range(5):
                for some in itertools.product(rows, repeat=size):
                    self.assertIs(all_shown(web, list(some)), list(some) == trees)

    def test_lists_with_a_fault(self):
        for web in (full_web(4), ring_web(6), full_web(5)):
            trees = plain_trees(web)
            for at in range(len(trees)):
                left_out = trees[:at] + trees[at + 1:]
                self.assertIs(all_shown(web, left_out), False)
                self.assertIs(all_shown(web, trees[:at] + [trees[at]] + trees[at:]), False)
                self.assertIs(all_shown(web, [trees[at]] + left_out), at == 0)
                self.assertIs(all_shown(web, left_out + [trees[at]]), at == len(trees) - 1)
                for wrong in ((), (0, 1), trees[at][::-1], trees[at] + (9,), (-1,) + trees[at][1:]):
                    self.assertIs(all_shown(web, trees[:at] + [wrong] + trees[at + 1:]), False)
            self.assertIs(all_shown(web, trees[::-1]), False)

    def test_a_row_that_is_no_tree_between(self):
        web = full_web(4)
        self.assertNotIn((0, 1, 3), plain_trees(web))
        self.assertIs(all_shown(web, sorted(plain_trees(web) + [(0, 1, 3)])), False)

    def test_numbers_that_are_none(self):
        self.assertIs(all_shown(ring_web(3), [(0, 1), (0, 2), (1, 2), (1, 10 ** 5000)]), False)
        self.assertIs(all_shown(ring_web(3), [(-10 ** 5000, 1), (0, 1), (0, 2), (1, 2)]), False)

    def test_some_of_very_many_trees(self):
        web = great_web()
        trees = [tree_at(web, number) for number in range(200)]
        begun = time.perf_counter()
        self.assertIs(all_shown(web, trees), False)
        self.assertIs(all_shown(web, trees[:1]), False)
        self.assertLess(time.perf_counter() - begun, 1)

    def test_webs_with_ties_drawn_in(self):
        web = web_drawn_in(full_web(5, (999,)), 2)
        self.assertIs(all_shown(web, plain_trees(web)), True)
        self.assertIs(all_shown(web, plain_trees(web)[1:]), False)


class Unchanged(unittest.TestCase):
    def test_what_is_handed_in_and_told(self):
        web = full_web(4, (5, 2))
        kept = copy.deepcopy(web)
        told = all_trees(web)
        handed = list(told)
        all_shown(web, handed)
        self.assertEqual(handed, told)
        told.clear()
        self.assertEqual(all_trees(web), handed)
        told.append("other")
        self.assertEqual(all_trees(web), handed)
        self.assertEqual(next_tree(web, handed[3]), handed[4])
        self.assertEqual(web, kept)


if __name__ == "__main__":
    unittest.main()
