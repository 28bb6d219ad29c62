"""Rows and rounds of all trees ([2], [3], [13], [14], [15])."""

import copy
import itertools
import random
import time
import unittest

from helper import (PLACES, Refusing, all_webs, apart, full_web, great_web, line_web, plain_trees,
                    ring_web, small_webs, web_of_pairs)
from treerounds.errors import NoTie, NoTree
from treerounds.rounds.rounds import (exchanges_along, round_shown, row_by, row_from_with,
                                      row_shown, tree_round)
from treerounds.trees.counts import count_trees, count_with
from treerounds.trees.orders import all_trees

APART = web_of_pairs(4, ["ab", "cd"])
ONE = (("a",), ())
FAR = 10 ** 5000


def webs_of_some_three_hundred(many):
    """Webs with 200 to 300 trees, of up to twelve names."""
    # Five rings of three, each hung on the next.
    yield web_of_pairs(11, ["ab", "bc", "ac", "cd", "de", "ce", "ef", "fg", "eg", "gh", "hi", "gi",
                            "ij", "jk", "ik"])
    # Two rows of five names, and ties across.
    yield web_of_pairs(10, ["ab", "bc", "cd", "de", "fg", "gh", "hi", "ij", "af", "bg", "ch", "di",
                            "ej"])
    chosen = random.Random(3)
    while many:
        names = PLACES[:chosen.randint(6, 12)]
        pairs = list(itertools.combinations(names, 2))
        size = min(len(names) + chosen.randint(1, 4), len(pairs))
        web = web_of_pairs(len(names), chosen.sample(pairs, size))
        if 200 <= count_trees(web) <= 300:
            many -= 1
            yield web


class Rows(Refusing):
    def assert_row_of_all(self, web, trees):
        self.assertIs(type(trees), list)
        self.assertEqual(sorted(trees), all_trees(web))
        for one, other in zip(trees, trees[1:]):
            self.assertEqual(apart(one, other), 1)


class Round(Rows):
    def check_round(self, web):
        told = tree_round(web)
        self.assertIs(type(told), tuple)
        word, trees = told
        self.assert_row_of_all(web, trees)
        self.assertEqual(word, "round" if len(trees) >= 3 else "row")
        if trees:
            self.assertEqual(trees[0], all_trees(web)[0])
        if word == "round":
            self.assertEqual(apart(trees[-1], trees[0]), 1)

    def test_edges(self):
        self.assertEqual(tree_round(ONE), ("row", [()]))
        self.assertEqual(tree_round(APART), ("row", []))
        self.assertEqual(tree_round(line_web(5)), ("row", [(0, 1, 2, 3)]))
        self.assertEqual(tree_round((("a", "b"), ())), ("row", []))
        self.assertEqual(tree_round((("a", "b"), (("a", "b", 4),))), ("row", [(0,)]))

    def test_small_webs(self):
        for web in small_webs((4, 1)):
            self.check_round(web)

    def test_webs_of_five(self):
        for web in all_webs(5):
            self.check_round(web)

    def test_some_three_hundred_trees(self):
        for web in webs_of_some_three_hundred(12):
            begun = time.perf_counter()
            told = tree_round(web)
            self.assertLess(time.perf_counter() - begun, 2)
            self.assertEqual(told[0], "round")
            self.check_round(web)


class FromWith(Rows):
    def check_tie(self, web, tie):
        with_it, without = count_with(web, tie)
        if not with_it or not without:
            self.assert_refused(NoTie, row_from_with, web, tie)
            return
        trees = row_from_with(web, tie)
        self.assert_row_of_all(web, trees)
        self.assertIn(tie, trees[0])
        self.assertNotIn(tie, trees[-1])

    def test_small_webs(self):
        for web in small_webs((4, 1)):
            for tie in range(len(web[1])):
                self.check_tie(web, tie)

    def test_webs_of_five(self):
        for web in all_webs(5):
            for tie in range(len(web[1])):
                self.check_tie(web, tie)

    def test_some_three_hundred_trees(self):
        for web in webs_of_some_three_hundred(4):
            for tie in range(len(web[1])):
                begun = time.perf_counter()
                self.check_tie(web, tie)
                self.assertLess(time.perf_counter() - begun, 3)

    def test_ties_of_all_trees_or_of_none(self):
        for tie in range(3):
            self.assert_refused(NoTie, row_from_with, line_web(4), tie)
        for tie in range(2):
            self.assert_refused(NoTie, row_from_with, APART, tie)
        self.assert_refused(NoTie, row_from_with, web_of_pairs(4, ["ab", "bc", "ac", "cd"]), 3)

    def test_numbers_that_are_none(self):
        for tie in (-1, -3, 3, 4, FAR, -FAR, True, False):
            self.assert_refused(NoTie, row_from_with, ring_web(3), tie)
            self.assert_refused(NoTie, row_from_with, ONE, tie)


class Lookers(Rows):
    def test_all_lists_of_webs_of_three(self):
        rows = [(0, 1), (0, 2), (1, 2), (2, 1), (0,), (), (0, 0), (-1, 0), (0, 1, 2)]
        for web in all_webs(3):
            trees = plain_trees(web)
            for size in range(5):
                for some in itertools.product(rows, repeat=size):
                    # Any two trees of a web of three are one exchange apart.
                    good = sorted(some) == trees
                    self.assertIs(row_shown(web, list(some)), good)
                    self.assertIs(round_shown(web, list(some)), good and size == 3)

    def test_rounds_begun_elsewhere_and_turned_about(self):
        for web in (ring_web(3), ring_web(5), full_web(4), full_web(5)):
            trees = tree_round(web)[1]
            for at in range(len(trees)):
                turned = trees[at:] + trees[:at]
                for row in (turned, turned[::-1]):
                    self.assertIs(row_shown(web, row), True)
                    self.assertIs(round_shown(web, row), True)

    def test_rows_that_are_no_rounds(self):
        web = full_web(4)
        seen = {True: 0, False: 0}
        for tie in range(6):
            trees = row_from_with(web, tie)
            for row in (trees, trees[::-1]):
                self.assertIs(row_shown(web, row), True)
                self.assertIs(round_shown(web, row), apart(row[0], row[-1]) == 1)
                seen[apart(row[0], row[-1]) == 1] += 1
        # A row that is cut and turned in part, so that its ends lie apart.
        trees = tree_round(web)[1]
        for at in range(1, len(trees)):
            row = trees[:at][::-1] + trees[at:]
            good = all(apart(one, other) == 1 for one, other in zip(row, row[1:]))
            self.assertIs(row_shown(web, row), good)
            self.assertIs(round_shown(web, row), good and apart(row[0], row[-1]) == 1)
            seen[good and apart(row[0], row[-1]) == 1] += 1
        self.assertGreater(min(seen.values()), 0)

    def test_of_one_tree_and_none(self):
        for web in (ONE, line_web(3)):
            trees = plain_trees(web)
            self.assertIs(row_shown(web, trees), True)
            self.assertIs(round_shown(web, trees), False)
            for wrong in ([], trees + trees, trees * 3):
                self.assertIs(row_shown(web, wrong), False)
                self.assertIs(round_shown(web, wrong), False)
        self.assertIs(row_shown(APART, []), True)
        self.assertIs(round_shown(APART, []), False)
        self.assertIs(row_shown(APART, [(0, 1)]), False)

    def test_lists_with_a_fault(self):
        for web in (full_web(4), ring_web(6)):
            trees = tree_round(web)[1]
            for at, tree in enumerate(trees):
                left_out = trees[:at] + trees[at + 1:]
                faults = [left_out, trees[:at] + [tree] + trees[at:], trees + [tree],
                          left_out + [trees[(at + 1) % len(trees)]]]
                for wrong in ((), tree[:-1], tree[::-1], tree + (9,), (-1,) + tree[1:],
                              tree[:-1] + (FAR,)):
                    faults.append(trees[:at] + [wrong] + trees[at + 1:])
                for fault in faults:
                    self.assertIs(row_shown(web, fault), False)
                    self.assertIs(round_shown(web, fault), False)

    def test_a_tree_in_another_place(self):
        web = full_web(4)
        trees = tree_round(web)[1]
        for one, other in itertools.combinations(range(len(trees)), 2):
            row = list(trees)
            row[one], row[other] = row[other], row[one]
            good = all(apart(here, there) == 1 for here, there in zip(row, row[1:]))
            self.assertIs(row_shown(web, row), good)
            self.assertIs(round_shown(web, row), good and apart(row[0], row[-1]) == 1)
        self.assertIs(row_shown(web, all_trees(web)),
                      all(apart(here, there) == 1 for here, there in
                          zip(all_trees(web), all_trees(web)[1:])))

    def test_a_row_of_some_of_very_many_trees(self):
        web = great_web()
        trees = [tuple(range(11))] * 3
        self.assertIs(row_shown(web, trees), False)
        self.assertIs(round_shown(web, trees), False)


class Exchanges(Rows):
    def test_there_and_back(self):
        for web in small_webs():
            word, trees = tree_round(web)
            exchanges = exchanges_along(web, trees)
            self.assertIs(type(exchanges), list)
            self.assertEqual(len(exchanges), max(len(trees) - 1, 0))
            for (out, put), one, other in zip(exchanges, trees, trees[1:]):
                self.assertEqual(({out}, {put}), (set(one) - set(other), set(other) - set(one)))
            if trees:
                self.assertEqual(row_by(web, trees[0], exchanges), trees)
            if word == "round":
                around = exchanges_along(web, trees + trees[:1])
                self.assertEqual(row_by(web, trees[0], around), trees + trees[:1])

    def test_edges(self):
        self.assertEqual(exchanges_along(APART, []), [])
        self.assertEqual(exchanges_along(ONE, [()]), [])
        self.assertEqual(exchanges_along(ring_web(3), [(0, 2), (0, 1)]), [(2, 1)])
        self.assertEqual(row_by(ONE, (), []), [()])
        self.assertEqual(row_by(ring_web(3), (0, 2), []), [(0, 2)])
        self.assertEqual(row_by(ring_web(3), (0, 2), [(2, 1), (1, 2), (0, 1)]),
                         [(0, 2), (0, 1), (0, 2), (1, 2)])

    def test_a_row_of_three_hundred_exchanges(self):
        web = full_web(4)
        exchanges = ([(0, 3), (3, 0)] * 151)[:301]
        trees = row_by(web, (0, 1, 2), exchanges)
        self.assertEqual(len(trees), 302)
        self.assertEqual(exchanges_along(web, trees), exchanges)

    def test_refused(self):
        web = ring_web(4)
        for row in ((), (0, 1), (0, 2, 1), (0, 1, 1), (0, 1, 2, 3), (-1, 0, 1), (0, 1, 4)):
            self.assert_refused(NoTree, row_by, web, row, [])
            # NoTree comes first.
            self.assert_refused(NoTree, row_by, web, row, [(9, 9)])
        for pair in ((0, 0), (3, 0), (0, 1), (0, 4), (0, -1), (-4, 3), (9, 9), (0, FAR)):
            self.assert_refused(NoTie, row_by, web, (0, 1, 2), [pair])
            self.assert_refused(NoTie, row_by, web, (0, 1, 2), [(0, 3), (1, 0), pair, pair])
        # An exchange of the first tree that is none of the next.
        self.assert_refused(NoTie, row_by, web, (0, 1, 2), [(0, 3), (0, 3)])
        self.assert_refused(NoTie, row_by, web, (0, 1, 2), [(0, 3), (1, 3)])
        self.assert_refused(NoTree, row_by, APART, (0, 1), [])


class Unchanged(Rows):
    def test_what_is_handed_in_and_told(self):
        web = full_web(4, (5, 2))
        kept = copy.deepcopy(web)
        trees = tree_round(web)[1]
        handed = list(trees)
        exchanges = exchanges_along(web, handed)
        told = (row_shown(web, handed), round_shown(web, handed), row_by(web, handed[0], exchanges),
                row_from_with(web, 1))
        again = copy.deepcopy(told)
        self.assertEqual(handed, trees)
        told[2].clear()
        told[3].append("other")
        trees.reverse()
        self.assertEqual(tree_round(web)[1], handed)
        self.assertEqual(row_by(web, handed[0], exchanges), again[2])
        self.assertEqual(row_from_with(web, 1), again[3])
        handed_exchanges = list(exchanges)
        exchanges.clear()
        self.assertEqual(exchanges_along(web, handed), handed_exchanges)
        self.assertEqual(web, kept)


if __name__ == "__main__":
    unittest.main()
