"""Shares of ties, and hardness ([2], [3], [21], [22])."""

import copy
import fractions
import itertools
import math
import time
import unittest

from helper import (Refusing, full_web, great_web, line_web, plain_trees, ring_web, small_webs,
                    web_of_pairs, weight_in)
from treerounds.errors import NoTie
from treerounds.shares.shares import hardness, share_of, share_of_both
from treerounds.trees.counts import count_trees, count_with
from treerounds.webs.drawn_in import web_drawn_in

UNLIKE = (5, 3, 8, 1, 999, 2, 7)
FAR = 10 ** 5000


def webs_with_trees():
    """Webs with a tree, weights alike and unlike, ties drawn in."""
    for weights in (None, UNLIKE, (999, 1)):
        for web in small_webs(weights):
            if plain_trees(web):
                yield web
    yield web_drawn_in(full_web(5, (999, 2)), 4)


def plain_share(web, some):
    """The part of the weights that trees with some ties have."""
    trees = plain_trees(web)
    whole = sum(weight_in(web, tree) for tree in trees)
    return fractions.Fraction(
        sum(weight_in(web, tree) for tree in trees if set(some) <= set(tree)), whole)


def plain_hardness(web, one, other):
    """By all rows of ties that make a tree together with a new one between two names."""
    names, ties = web
    whole = sum(weight_in(web, tree) for tree in plain_trees(web))
    with_one_more = (names, ties + ((one, other, 1),))
    trees = [tree for tree in plain_trees(with_one_more) if len(ties) in tree]
    return fractions.Fraction(sum(weight_in(with_one_more, tree) for tree in trees), whole)


class Told(Refusing):
    def assert_fraction(self, told, value):
        self.assertIs(type(told), tuple)
        self.assertEqual([type(part) for part in told], [int, int])
        self.assertEqual(told, (value.numerator, value.denominator))
        self.assertEqual(math.gcd(*told), 1)


class Shares(Told):
    def test_known_webs(self):
        self.assertEqual(share_of(line_web(4, (7, 8, 9)), 1), (1, 1))
        self.assertEqual(share_of(ring_web(6), 2), (5, 6))
        self.assertEqual(share_of(full_web(4), 5), (1, 2))
        self.assertEqual(share_of(ring_web(3, (1, 2, 3)), 0), (5, 11))
        self.assertEqual(share_of((("a", "b"), (("a", "b", 999),)), 0), (1, 1))

    def test_webs(self):
        for web in webs_with_trees():
            whole = fractions.Fraction(0)
            for tie in range(len(web[1])):
                told = share_of(web, tie)
                self.assert_fraction(told, plain_share(web, [tie]))
                whole += fractions.Fraction(*told)
            self.assertEqual(whole, len(web[0]) - 1)

    def test_of_both(self):
        self.assertEqual(share_of_both(line_web(3), 0, 1), (1, 1))
        self.assertEqual(share_of_both(ring_web(3, (1, 2, 3)), 1, 2), (6, 11))
        for web in webs_with_trees():
            for one, other in itertools.permutations(range(len(web[1])), 2):
                told = share_of_both(web, one, other)
                self.assert_fraction(told, plain_share(web, [one, other]))
                alone = [fractions.Fraction(*share_of(web, tie)) for tie in (one, other)]
                self.assertLessEqual(fractions.Fraction(*told), alone[0] * alone[1])

    def test_numbers_that_are_none(self):
        web = ring_web(4)
        for tie in (-1, -4, -5, 4, 5, FAR, -FAR, True, False):
            self.assert_refused(NoTie, share_of, web, tie)
            self.assert_refused(NoTie, share_of_both, web, tie, 2)
            self.assert_refused(NoTie, share_of_both, web, 2, tie)
            self.assert_refused(NoTie, share_of, (("a",), ()), tie)
        self.assert_refused(NoTie, share_of_both, web, 9, -9)

    def test_twelve_names_and_twenty_four_ties(self):
        web = great_web()
        begun = time.perf_counter()
        many = count_trees(web)
        whole = 0
        for tie in range(24):
            told = share_of(web, tie)
            self.assert_fraction(told, fractions.Fraction(count_with(web, tie)[0], many))
            whole += fractions.Fraction(*told)
            share_of_both(web, tie, (tie + 1) % 24)
        self.assertEqual(whole, 11)
        self.assertLess(time.perf_counter() - begun, 2)


class Hardness(Told):
    def test_known_webs(self):
        # Ties in a row and side by side, as wires are.
        self.assertEqual(hardness(line_web(4), "a", "d"), (3, 1))
        self.assertEqual(hardness(line_web(4, (1, 2, 4)), "a", "d"), (7, 4))
        self.assertEqual(hardness(ring_web(4), "a", "b"), (3, 4))
        self.assertEqual(hardness(ring_web(4), "a", "c"), (1, 1))
        self.assertEqual(hardness(full_web(5), "b", "e"), (2, 5))
        self.assertEqual(hardness((("a", "b"), (("a", "b", 999),)), "b", "a"), (1, 999))

    def test_webs(self):
        for web in webs_with_trees():
            for one, other in itertools.permutations(web[0], 2):
                told = hardness(web, one, other)
                self.assert_fraction(told, plain_hardness(web, *sorted((one, other))))

    def test_a_tie_times_its_weight_is_its_share(self):
        for web in list(webs_with_trees()) + [great_web(UNLIKE)]:
            for tie, (one, other, weight) in enumerate(web[1]):
                told = weight * fractions.Fraction(*hardness(web, one, other))
                self.assertEqual(told, fractions.Fraction(*share_of(web, tie)))

    def test_names_that_are_none(self):
        web = ring_web(4)
        self.assert_no_name("x", hardness, web, "x", "y")
        self.assert_no_name("y", hardness, web, "a", "y")
        self.assert_no_name("x", hardness, web, "x", "a")
        self.assert_no_name("ab", hardness, web, "ab", "x")
        self.assert_no_name("", hardness, web, "", "")
        self.assert_no_name("b", hardness, (("a",), ()), "a", "b")

    def test_twelve_names_and_twenty_four_ties(self):
        begun = time.perf_counter()
        for one, other in itertools.combinations(great_web()[0], 2):
            hardness(great_web(UNLIKE), one, other)
        self.assertLess(time.perf_counter() - begun, 3)


class Unchanged(unittest.TestCase):
    def test_what_is_handed_in(self):
        web = full_web(4, UNLIKE)
        kept = copy.deepcopy(web)
        first = (share_of(web, 2), share_of_both(web, 2, 3), hardness(web, "a", "d"))
        again = (share_of(web, 2), share_of_both(web, 2, 3), hardness(web, "a", "d"))
        self.assertEqual(again, first)
        self.assertEqual(web, kept)


if __name__ == "__main__":
    unittest.main()
