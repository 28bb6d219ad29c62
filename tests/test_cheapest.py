"""Trees in order of cost, and papers that none is cheaper ([2], [3], [16], [17])."""

import copy
import itertools
import time
import unittest

from helper import (Refusing, all_webs, full_web, great_web, line_web, plain_trees, ring_web,
                    small_webs, web_of_pairs)
from treerounds.cheap.cheapest import cheap_paper, cheap_shown, cheapest, cost_of
from treerounds.errors import NoTree
from treerounds.trees.trees import is_tree, way_in
from treerounds.webs.drawn_in import web_drawn_in

APART = web_of_pairs(4, ["ab", "cd"])
ONE = (("a",), ())
UNLIKE = (5, 3, 8, 1, 999, 2, 7)
SOME_ALIKE = (2, 1, 2, 1, 1)
ALL_WEIGHTS = (None, UNLIKE, SOME_ALIKE, (999,))
# a-b 0, a-c 1, b-c 2, b-d 3, c-d 4.
WEB = web_of_pairs(4, ["ab", "ac", "bc", "bd", "cd"], (1, 2, 2, 2, 1))


def plain_cost(web, tree):
    """The sum of a tree's weights."""
    return sum(web[1][tie][2] for tie in tree)


def plain_cheapest(web):
    """All trees in order of cost, then as tuples."""
    return sorted((plain_cost(web, tree), tree) for tree in plain_trees(web))


def plain_shown(web, tree, paper):
    """What a looker has to tell of a tree and a paper."""
    ties = web[1]
    if [pair[0] for pair in paper] != [tie for tie in range(len(ties)) if tie not in tree]:
        return False
    for tie, held in paper:
        way = way_in(web, tree, ties[tie][0], ties[tie][1])
        if held not in way or ties[held][2] != max(ties[at][2] for at in way):
            return False
        if ties[held][2] > ties[tie][2]:
            return False
    return True


class Costs(Refusing):
    def test_costs(self):
        self.assertEqual(cost_of(ONE, ()), 0)
        self.assertEqual(cost_of(WEB, (0, 1, 4)), 4)
        self.assertEqual(cost_of(ring_web(3, (999,)), (0, 2)), 1998)
        for web in small_webs(UNLIKE):
            for tree in plain_trees(web):
                self.assertEqual(cost_of(web, tree), plain_cost(web, tree))

    def test_rows_that_are_no_trees(self):
        for row in ((), (0,), (0, 1), (1, 0, 3), (0, 1, 2), (0, 1, 1), (-1, 0, 3), (0, 1, 5),
                    (0, 1, 3, 4), (0, 1, 10 ** 5000)):
            self.assert_refused(NoTree, cost_of, WEB, row)
        self.assert_refused(NoTree, cost_of, APART, (0, 1))
        self.assert_refused(NoTree, cost_of, (("a", "b"), ()), ())


class Cheapest(unittest.TestCase):
    def test_edges(self):
        for k in (0, 1, 2, 30):
            self.assertEqual(cheapest(APART, k), [])
            self.assertEqual(cheapest(ONE, k), [(0, ())][:k])
            self.assertEqual(cheapest(line_web(4, (5,)), k), [(15, (0, 1, 2))][:k])
        self.assertEqual(cheapest(ring_web(3, (3, 1, 2)), 2), [(3, (1, 2)), (4, (0, 1))])

    def test_of_one_cost_the_first_as_tuples(self):
        web = full_web(4)
        told = cheapest(web, 16)
        self.assertEqual(told, [(3, tree) for tree in plain_trees(web)])

    def test_small_webs(self):
        for weights in ALL_WEIGHTS:
            for web in small_webs(weights):
                trees = plain_cheapest(web)
                for k in (0, 1, 2, 3, 7, len(trees), len(trees) + 1, 200):
                    told = cheapest(web, k)
                    self.assertIs(type(told), list)
                    self.assertEqual(told, trees[:k])

    def test_each_k(self):
        for weights in ALL_WEIGHTS:
            web = full_web(5, weights)
            trees = plain_cheapest(web)
            for k in range(131):
                self.assertEqual(cheapest(web, k), trees[:k])

    def test_six_places(self):
        for weights in ALL_WEIGHTS:
            web = full_web(6, weights)
            begun = time.perf_counter()
            told = cheapest(web, 230)
            self.assertLess(time.perf_counter() - begun, 1)
            self.assertEqual(told, plain_cheapest(web)[:230])

    def test_twelve_names_and_twenty_four_ties(self):
        for weights in ALL_WEIGHTS:
            web = great_web(weights)
            begun = time.perf_counter()
            told = cheapest(web, 30)
            self.assertLess(time.perf_counter() - begun, 1)
            self.assertEqual(len(told), 30)
            self.assertEqual(told, sorted(set(told)))
            for cost, tree in told:
                self.assertTrue(is_tree(web, tree))
                self.assertEqual(cost, plain_cost(web, tree))
            self.assertTrue(cheap_shown(web, told[0][1], cheap_paper(web, told[0][1])))
            self.assertEqual(cheapest(web, 12), told[:12])

    def test_seven_and_eight_places(self):
        for web in (full_web(7, UNLIKE), web_of_pairs(8, list(itertools.combinations(
                "abcdefgh", 2))[::2], SOME_ALIKE)):
            self.assertEqual(cheapest(web, 30), plain_cheapest(web)[:30])

    def test_webs_with_ties_drawn_in(self):
        web = web_drawn_in(full_web(6, (999, 500, 501)), 3)
        self.assertGreater(max(row[2] for row in web[1]), 999)
        self.assertEqual(cheapest(web, 230), plain_cheapest(web)[:230])


class Papers(Refusing):
    def test_papers(self):
        self.assertEqual(cheap_paper(ONE, ()), ())
        self.assertEqual(cheap_paper(line_web(4), (0, 1, 2)), ())
        # Of ties of one weight on the way the first number.
        self.assertEqual(cheap_paper(WEB, (0, 1, 4)), ((2, 1), (3, 1)))
        self.assertEqual(cheap_paper(ring_web(5), (0, 2, 3, 4)), ((1, 0),))
        self.assertEqual(cheap_paper(WEB, (0, 3, 4)), ((1, 3), (2, 3)))

    def test_all_trees_of_small_webs(self):
        for weights in ALL_WEIGHTS:
            for web in small_webs(weights):
                trees = plain_trees(web)
                least = min([plain_cost(web, tree) for tree in trees], default=0)
                for tree in trees:
                    if plain_cost(web, tree) > least:
                        self.assert_refused(NoTree, cheap_paper, web, tree)
                    else:
                        self.check_paper(web, tree, cheap_paper(web, tree))

    def check_paper(self, web, tree, paper):
        self.assertIs(type(paper), tuple)
        self.assertIs(cheap_shown(web, tree, paper), True)
        for tie, held in paper:
            way = way_in(web, tree, web[1][tie][0], web[1][tie][1])
            most = max(web[1][at][2] for at in way)
            self.assertEqual(held, min(at for at in way if web[1][at][2] == most))

    def test_rows_that_are_no_trees(self):
        for row in ((), (0,), (0, 1), (1, 0, 4), (0, 1, 2), (0, 1, 1), (-1, 0, 4), (0, 1, 5)):
            self.assert_refused(NoTree, cheap_paper, WEB, row)
        self.assert_refused(NoTree, cheap_paper, APART, (0, 1))


class Lookers(unittest.TestCase):
    def test_all_papers_of_webs_of_four(self):
        for weights in (None, SOME_ALIKE, UNLIKE):
            for web in all_webs(4, weights):
                if len(web[1]) > 4:
                    continue
                numbers = range(len(web[1]))
                pairs = list(itertools.product(numbers, numbers))
                for tree, size in itertools.product(plain_trees(web), range(3)):
                    for paper in itertools.product(pairs, repeat=size):
                        good = plain_shown(web, tree, paper)
                        self.assertIs(cheap_shown(web, tree, paper), good)

    def test_any_heaviest_tie_will_do(self):
        # The way of tie 2 goes by ties 0 and 1, that of tie 4 by ties 0, 1 and 3.
        web = (WEB[0], WEB[1][:4] + (("c", "d", 2),))
        for one, other in itertools.product(range(-1, 6), repeat=2):
            self.assertIs(cheap_shown(web, (0, 1, 3), ((2, one), (4, other))),
                          one == 1 and other in (1, 3))
            # Here tie 4 weighs less than what is heaviest on its way.
            self.assertIs(cheap_shown(WEB, (0, 1, 3), ((2, one), (4, other))), False)
            self.assertIs(cheap_shown(full_web(3), (0, 1), ((2, one),)), one in (0, 1))

    def test_papers_with_a_fault(self):
        web, tree = full_web(5, UNLIKE), cheapest(full_web(5, UNLIKE), 1)[0][1]
        paper = cheap_paper(web, tree)
        self.assertIs(cheap_shown(web, tree, paper), True)
        for at, (tie, held) in enumerate(paper):
            left_out = paper[:at] + paper[at + 1:]
            faults = [left_out, paper[:at + 1] + paper[at:], paper[at:] + paper[:at] if at else (),
                      left_out + (paper[at],) if at < len(paper) - 1 else ()]
            for pair in ((tie, tie), (held, tie), (held, held), (-1, held), (tie, -1), (tie, 99),
                         (99, held), (tie, 10 ** 5000), (10 ** 5000, held)):
                faults.append(paper[:at] + (pair,) + paper[at + 1:])
            way = way_in(web, tree, web[1][tie][0], web[1][tie][1])
            for other in set(tree) - set(way):
                faults.append(paper[:at] + ((tie, other),) + paper[at + 1:])
            for fault in faults:
                self.assertIs(cheap_shown(web, tree, fault), False)
        self.assertIs(cheap_shown(web, tree, paper + ((tree[0], tree[0]),)), False)

    def test_rows_that_are_no_trees(self):
        for row in ((), (0,), (1, 0, 4), (0, 1, 2), (0, 1, 1), (-1, 0, 4), (0, 1, 5), (0, 1, 3, 4)):
            for paper in ((), ((2, 1), (3, 1)), ((2, 1),), ((3, 1),)):
                self.assertIs(cheap_shown(WEB, row, paper), False)
        self.assertIs(cheap_shown(APART, (0, 1), ()), False)
        self.assertIs(cheap_shown((("a", "b"), ()), (), ()), False)
        self.assertIs(cheap_shown(ONE, (), ()), True)
        self.assertIs(cheap_shown(ONE, (), ((0, 0),)), False)

    def test_a_tree_that_is_not_the_cheapest_has_no_paper(self):
        web = ring_web(4, (1, 1, 2, 1))
        for held in range(-1, 5):
            self.assertIs(cheap_shown(web, (0, 1, 2), ((3, held),)), False)
            self.assertIs(cheap_shown(web, (0, 1, 3), ((2, held),)), held in (0, 1, 3))

    def test_webs_with_ties_drawn_in(self):
        web = web_drawn_in(full_web(5, (999,)), 2)
        for tree in plain_trees(web):
            if plain_cost(web, tree) == plain_cheapest(web)[0][0]:
                self.assertIs(cheap_shown(web, tree, cheap_paper(web, tree)), True)


class Unchanged(unittest.TestCase):
    def test_what_is_handed_in_and_told(self):
        web = full_web(4, UNLIKE)
        kept = copy.deepcopy(web)
        told = cheapest(web, 5)
        again = list(told)
        told.clear()
        self.assertEqual(cheapest(web, 5), again)
        tree = again[0][1]
        cost_of(web, tree)
        cheap_shown(web, tree, cheap_paper(web, tree))
        self.assertEqual(web, kept)


if __name__ == "__main__":
    unittest.main()
