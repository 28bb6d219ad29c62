"""Few forests that hold each tie once, and where ties lie thickest ([2], [3], [30], [31])."""

import copy
import fractions
import functools
import itertools
import math
import random
import time
import unittest

from helper import (PLACES, all_webs, full_web, great_web, line_web, ring_web, small_webs,
                    web_of_pairs)
from treerounds.apart.forests import few_forests, forests_shown, thickest

ONE = (("a",), ())
FAR = 10 ** 5000
IN_TWO = web_of_pairs(5, ["ab", "cd", "ce", "de"])


def has_round(web, row):
    """Whether ties have a way round: taking ends away again and again leaves some."""
    left = [web[1][tie][:2] for tie in row]
    while True:
        tied = [name for pair in left for name in pair]
        kept = [pair for pair in left if all(tied.count(name) > 1 for name in pair)]
        if kept == left:
            return bool(left)
        left = kept


def fits(web, forests, at):
    """Whether the ties from a number on can be shared out to forests, by all choices."""
    if at == len(web[1]):
        return True
    for forest in forests:
        if not has_round(web, forest + [at]):
            forest.append(at)
            good = fits(web, forests, at + 1)
            forest.pop()
            if good:
                return True
    return False


@functools.cache
def plain_many(web):
    """How many forests there are at least, by all choices; of more than five names by crowds."""
    if len(web[0]) > 5:
        told = plain_thickest(web)
        return 0 if told is None else math.ceil(told[0])
    many = 0
    while not fits(web, [[] for _ in range(many)], 0):
        many += 1
    return many


def among(web, names):
    """How many ties lie among some names."""
    return sum(one in names and other in names for one, other, _ in web[1])


def plain_thickest(web):
    """The greatest fraction, and the first of the names with it, fewest names first."""
    told = [(fractions.Fraction(among(web, some), size - 1), size, some)
            for size in range(2, len(web[0]) + 1) for some in itertools.combinations(web[0], size)]
    told = [row for row in told if row[0]]
    if not told:
        return None
    most = max(row[0] for row in told)
    _, some = min(row[1:] for row in told if row[0] == most)
    return most, some


def plain_shown(web, forests, names):
    """What a looker has to tell."""
    rows = [set(forest) for forest in forests]
    if any(list(forest) != sorted(row) for forest, row in zip(forests, rows)):
        return False
    if sorted(tie for forest in forests for tie in forest) != list(range(len(web[1]))):
        return False
    if any(has_round(web, forest) for forest in forests):
        return False
    if len(forests) < 2:
        return names == () and len(forests) == plain_many(web)
    return (len(names) >= 2 and list(names) == sorted(set(names)) and set(names) <= set(web[0])
            and among(web, names) > (len(forests) - 1) * (len(names) - 1))


def webs():
    """Webs of all kinds of up to eight names."""
    yield from small_webs((3, 1))
    yield from list(all_webs(5))[::9]
    yield IN_TWO
    for many in range(2, 9):
        yield full_web(many)
        yield (tuple(PLACES[:many]), ())
    chosen = random.Random(21)
    for _ in range(60):
        many = chosen.randint(5, 8)
        pairs = list(itertools.combinations(PLACES[:many], 2))
        size = chosen.randint(1, min(24, len(pairs)))
        yield web_of_pairs(many, chosen.sample(pairs, size), (2, 7, 1))
    # A crowd that is not all of the web, with names behind it.
    yield web_of_pairs(8, list(itertools.combinations("defg", 2)) + ["ab", "bc", "cd", "ah"])


class Few(unittest.TestCase):
    def check(self, web):
        told = few_forests(web)
        self.assertIs(type(told), tuple)
        forests, names = told
        self.assertEqual((type(forests), type(names)), (tuple, tuple))
        self.assertTrue(all(type(forest) is tuple for forest in forests))
        self.assertIs(plain_shown(web, forests, names), True, (web, told))
        self.assertIs(forests_shown(web, forests, names), True)
        self.assertEqual(len(forests), plain_many(web))

    def test_webs(self):
        seen = {}
        for web in webs():
            self.check(web)
            seen[plain_many(web)] = True
        self.assertEqual(sorted(seen), [0, 1, 2, 3, 4])

    def test_of_one_forest_or_none(self):
        for web in (ONE, (("a", "b"), ()), (tuple("abc"), ())):
            self.assertEqual(few_forests(web), ((), ()))
        self.assertEqual(few_forests(line_web(4)), (((0, 1, 2),), ()))
        self.assertEqual(few_forests(web_of_pairs(4, ["ab", "cd"])), (((0, 1),), ()))

    def test_all_ties_of_so_many_names(self):
        self.assertEqual([len(few_forests(full_web(many))[0]) for many in range(1, 9)],
                         [0, 1, 2, 2, 3, 3, 4, 4])

    def test_by_keywords_in_any_order(self):
        web = full_web(4)
        forests, names = few_forests(web=web)
        self.assertIs(forests_shown(names=names, forests=forests, web=web), True)
        self.assertEqual(thickest(web=web), ((2, 1), tuple("abcd")))

    def test_twelve_names_and_twenty_four_ties(self):
        chosen = random.Random(4)
        pairs = list(itertools.combinations(PLACES, 2))
        some = [great_web((5, 1))] + [web_of_pairs(12, chosen.sample(pairs, 24)) for _ in range(9)]
        some.append(web_of_pairs(12, list(itertools.combinations("cdefgh", 2))
                                 + ["ab", "bc", "hi", "ij", "jk", "kl", "al", "ai", "bk"]))
        for web in some:
            begun = time.perf_counter()
            forests, names = few_forests(web)
            self.assertIs(forests_shown(web, forests, names), True)
            told, crowd = thickest(web)
            self.assertLess(time.perf_counter() - begun, 1)
            self.assertEqual(len(forests), math.ceil(fractions.Fraction(*told)))
            self.assertEqual(fractions.Fraction(*told),
                             fractions.Fraction(among(web, crowd), len(crowd) - 1))


class Lookers(unittest.TestCase):
    def assert_shown_as(self, web, forests, names):
        self.assertIs(forests_shown(web, forests, names), plain_shown(web, forests, names),
                      (web, forests, names))

    def test_all_names_of_small_webs(self):
        for web in (full_web(3), full_web(4), full_web(5), IN_TWO, line_web(4), ring_web(4)):
            forests = few_forests(web)[0]
            # The same ties in forests one more.
            more = forests[:-1] + (forests[-1][:1], forests[-1][1:])
            for size in range(len(web[0]) + 1):
                for names in itertools.permutations(web[0], size):
                    self.assert_shown_as(web, forests, names)
                    self.assert_shown_as(web, more, names)

    def test_all_ways_to_share_out_a_ring(self):
        web = ring_web(4)
        for homes in itertools.product(range(3), repeat=4):
            for many in range(1, 4):
                forests = tuple(tuple(tie for tie in range(4) if homes[tie] == home)
                                for home in range(many))
                for names in ((), ("a", "b"), tuple("abcd"), tuple("abc")):
                    self.assert_shown_as(web, forests, names)

    def test_forests_in_any_order(self):
        web = full_web(6)
        forests, names = few_forests(web)
        for some in itertools.permutations(forests):
            self.assertIs(forests_shown(web, some, names), True)

    def test_forests_with_a_fault(self):
        for web in (full_web(4), full_web(5), IN_TWO, line_web(4)):
            forests, names = few_forests(web)
            faults = [(), forests[:-1], forests + ((),), ((),) + forests, forests + forests[:1],
                      forests + ((0,),), forests[:-1] + ((),)]
            for at, forest in enumerate(forests):
                ahead, behind = forests[:at], forests[at + 1:]
                others = [forest[1:], forest[:-1], forest + forest[-1:], forest[:1] + forest,
                          forest + (99,), (-1,) + forest, forest + (FAR,), forest[:-1] + (FAR,),
                          forest[::-1] if len(forest) > 1 else (), ()]
                for place in range(len(forest)):
                    for tie in range(-1, len(web[1]) + 1):
                        others.append(forest[:place] + (tie,) + forest[place + 1:])
                faults += [ahead + (other,) + behind for other in others]
                # A tie in another row.
                for place, tie in enumerate(forest):
                    left = forest[:place] + forest[place + 1:]
                    for to, other in enumerate(forests):
                        if to != at:
                            rows = list(forests)
                            rows[at], rows[to] = left, tuple(sorted(other + (tie,)))
                            faults.append(tuple(rows))
                    faults.append(forests[:at] + (left,) + behind + ((tie,),))
            for fault in faults:
                self.assert_shown_as(web, fault, names)
                self.assert_shown_as(web, fault, ())

    def test_names_with_a_fault(self):
        web = full_web(5)
        forests, names = few_forests(web)
        self.assertEqual(names, tuple("abcde"))
        for fault in ((), ("a",), ("a", "b"), names[::-1], names[1:], names + ("f",), ("",) + names,
                      names + names[-1:], names + names, ("a", "b", "c", "d", "x"), ("A",) + names[1:],
                      ("b", "a", "c", "d", "e"), ("x", "y")):
            self.assertIs(forests_shown(web, forests, fault), False)
        # More ties lie among these names than need be, so one name more would not matter.
        web = full_web(4)
        forests, names = few_forests(web)
        for fault in (names + ("e",), names + ("x",), ("",) + names, ("A",) + names):
            self.assertIs(forests_shown(web, forests, fault), False)
        self.assertIs(forests_shown(web, forests, names), True)

    def test_of_one_forest_or_none(self):
        for names in ((), ("a",), ("a", "b"), ("x",), tuple("abcd")):
            self.assertIs(forests_shown(line_web(4), ((0, 1, 2),), names), names == ())
            self.assertIs(forests_shown(line_web(4), (), names), False)
            for web in (ONE, (tuple("ab"), ())):
                self.assertIs(forests_shown(web, (), names), names == ())
                for rows in (((),), ((), ()), ((0,),), ((), (), ())):
                    self.assertIs(forests_shown(web, rows, names), False)


class Thickest(unittest.TestCase):
    def test_webs(self):
        for web in webs():
            told, plain = thickest(web), plain_thickest(web)
            if plain is None:
                self.assertIsNone(told)
                continue
            self.assertEqual((type(told), type(told[0]), type(told[1])), (tuple,) * 3)
            self.assertEqual([type(part) for part in told[0]], [int, int])
            self.assertEqual(told, ((plain[0].numerator, plain[0].denominator), plain[1]))

    def test_known_webs(self):
        self.assertIsNone(thickest(ONE))
        self.assertIsNone(thickest((tuple("abc"), ())))
        self.assertEqual(thickest(line_web(4)), ((1, 1), ("a", "b")))
        self.assertEqual(thickest(web_of_pairs(3, ["bc"])), ((1, 1), ("b", "c")))
        self.assertEqual(thickest(ring_web(5)), ((5, 4), tuple("abcde")))
        self.assertEqual(thickest(full_web(5)), ((5, 2), tuple("abcde")))
        self.assertEqual(thickest(IN_TWO), ((3, 2), ("c", "d", "e")))
        # Fewest names first: three behind five that are as thick.
        self.assertEqual(thickest(web_of_pairs(8, ["ac", "ad", "ae", "bc", "bd", "be", "fg", "fh",
                                                   "gh"])), ((3, 2), ("f", "g", "h")))
        # Of as many names the first ones.
        self.assertEqual(thickest(web_of_pairs(6, ["ab", "ac", "bc", "de", "df", "ef"])),
                         ((3, 2), ("a", "b", "c")))
        self.assertEqual(thickest(web_of_pairs(7, ["ab", "bc", "cd", "ad", "ac", "bd", "ef", "eg",
                                                   "fg"])), ((2, 1), tuple("abcd")))


class Unchanged(unittest.TestCase):
    def test_what_is_handed_in(self):
        web = full_web(5, (4, 2))
        kept = copy.deepcopy(web)
        first = (few_forests(web), thickest(web))
        told = copy.deepcopy(first)
        forests_shown(web, *first[0])
        self.assertEqual((few_forests(web), thickest(web)), told)
        self.assertEqual((web, first), (kept, told))


if __name__ == "__main__":
    unittest.main()
