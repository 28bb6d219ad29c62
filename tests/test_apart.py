"""Trees apart, and partings that show that there are none ([2], [3], [28], [29])."""

import copy
import functools
import itertools
import random
import time
import unittest

from helper import (PLACES, all_webs, full_web, great_web, line_web, plain_trees, ring_web,
                    small_webs, spans, web_of_pairs)
from treerounds.apart.apart import apart_shown, most_apart, trees_apart

ONE = (("a",), ())
FAR = 10 ** 5000
IN_TWO = web_of_pairs(4, ["ab", "cd"])


def plain_partings(names):
    """All partings of some names."""
    if not names:
        yield ()
        return
    for size in range(len(names)):
        for with_first in itertools.combinations(names[1:], size):
            rest = tuple(name for name in names[1:] if name not in with_first)
            for parting in plain_partings(rest):
                yield ((names[0],) + with_first,) + parting


PARTINGS = {many: {parting: [[name in part for part in parting].index(True)
                             for name in PLACES[:many]]
                   for parting in plain_partings(tuple(PLACES[:many]))} for many in range(1, 9)}


def between(web, parting):
    """How many ties lead from part to part."""
    places = PARTINGS[len(web[0])][parting]
    return sum(places[PLACES.index(one)] != places[PLACES.index(other)] for one, other, _ in web[1])


@functools.cache
def plain_most(web):
    """How many trees apart there are at most, by all partings; of one name 4."""
    return min([4] + [between(web, parting) // (len(parting) - 1)
                      for parting in PARTINGS[len(web[0])] if len(parting) > 1])


def is_plain_tree(web, row):
    """Whether a row is a tree, by walking."""
    return (len(row) == len(web[0]) - 1 and list(row) == sorted(set(row))
            and set(row) <= set(range(len(web[1]))) and spans(web, row))


def plain_shown(web, many, told):
    """What a looker has to tell."""
    word, rows = told
    if word == "trees":
        ties = [tie for row in rows for tie in row]
        return (len(rows) == many and len(set(ties)) == len(ties)
                and all(is_plain_tree(web, row) for row in rows))
    return (word == "parting" and rows in PARTINGS[len(web[0])]
            and between(web, rows) < many * (len(rows) - 1))


def two_crowds():
    """Two crowds of four names with few ties between, weights unlike."""
    pairs = list(itertools.combinations("abcd", 2)) + list(itertools.combinations("efgh", 2))
    for more in (["ae"], ["ae", "bf"], ["ae", "bf", "cg"]):
        yield web_of_pairs(8, pairs + more, (4, 1, 9))


def webs():
    """Webs of all kinds of up to eight names."""
    yield from small_webs((3, 1))
    yield from two_crowds()
    for many in range(2, 9):
        yield full_web(many)
        yield ring_web(max(many, 3))
    chosen = random.Random(11)
    for at in range(60):
        many = 8 if at < 6 else chosen.randint(5, 7)
        pairs = list(itertools.combinations(PLACES[:many], 2))
        size = chosen.randint(many, min(24, len(pairs)))
        yield web_of_pairs(many, chosen.sample(pairs, size), (2, 7, 1))


class Told(unittest.TestCase):
    def check(self, web, many):
        told = trees_apart(web, many)
        self.assertIs(type(told), tuple)
        word, rows = told
        self.assertIs(type(rows), tuple)
        self.assertTrue(all(type(row) is tuple for row in rows))
        self.assertIs(plain_shown(web, many, told), True, (web, many, told))
        self.assertIs(apart_shown(web, many, told), True)
        self.assertEqual(word, "trees" if many <= plain_most(web) else "parting")

    def test_webs(self):
        seen = {}
        for web in webs():
            for many in range(1, 5):
                self.check(web, many)
            seen[plain_most(web)] = True
        self.assertEqual(sorted(seen), [0, 1, 2, 3, 4])

    def test_webs_of_five(self):
        for web in list(all_webs(5))[::7]:
            for many in (1, 2, 3):
                self.check(web, many)

    def test_one_name(self):
        for many in range(1, 5):
            self.assertEqual(trees_apart(ONE, many), ("trees", ((),) * many))

    def test_names_that_do_not_hang_together(self):
        for many in range(1, 5):
            for web in (IN_TWO, (("a", "b"), ()), (tuple("abc"), (("a", "c", 4),))):
                self.assertEqual(trees_apart(web, many)[0], "parting")

    def test_two_crowds(self):
        crowds = (tuple("abcd"), tuple("efgh"))
        for few, web in enumerate(two_crowds(), start=1):
            self.assertEqual(trees_apart(web, 2)[0], "trees" if few > 1 else "parting")
            for many in range(1, 5):
                self.assertIs(apart_shown(web, many, ("parting", crowds)), few < many)

    def test_most(self):
        for web in webs():
            self.assertEqual(most_apart(web), plain_most(web))
        self.assertEqual(most_apart(ONE), 4)
        self.assertEqual([most_apart(full_web(many)) for many in range(2, 9)], [1, 1, 2, 2, 3, 3, 4])
        for web in (IN_TWO, (("a", "b"), ())):
            self.assertEqual(most_apart(web), 0)

    def test_by_keywords_in_any_order(self):
        web = full_web(4)
        told = trees_apart(many=2, web=web)
        self.assertEqual(told, trees_apart(web, 2))
        self.assertIs(apart_shown(told=told, many=2, web=web), True)
        self.assertEqual(most_apart(web=web), 2)

    def test_twelve_names_and_twenty_four_ties(self):
        chosen = random.Random(2)
        pairs = list(itertools.combinations(PLACES, 2))
        some = [great_web((5, 1))] + [web_of_pairs(12, chosen.sample(pairs, 24)) for _ in range(9)]
        for web in some:
            begun = time.perf_counter()
            for many in range(1, 5):
                self.assertIs(apart_shown(web, many, trees_apart(web, many)), True)
            self.assertEqual(trees_apart(web, most_apart(web) + 1)[0], "parting")
            self.assertLess(time.perf_counter() - begun, 1)
        self.assertEqual(most_apart(great_web()), 2)


class Lookers(unittest.TestCase):
    def assert_shown_as(self, web, many, told):
        self.assertIs(apart_shown(web, many, told), plain_shown(web, many, told), (web, many, told))

    def test_all_partings_of_small_webs(self):
        for web in small_webs():
            for many in range(1, 5):
                for parting in PARTINGS[len(web[0])]:
                    self.assert_shown_as(web, many, ("parting", parting))

    def test_trees_in_any_order(self):
        for web in (full_web(6), full_web(7)):
            trees = trees_apart(web, 3)[1]
            for some in itertools.permutations(trees):
                self.assertIs(apart_shown(web, 3, ("trees", some)), True)
            for many in (1, 2, 4):
                self.assertIs(apart_shown(web, many, ("trees", trees)), False)
                self.assertIs(apart_shown(web, many, ("trees", trees[:many])), many < 3)

    def test_all_pairs_of_trees(self):
        web = full_web(4)
        for one, other in itertools.product(plain_trees(web), repeat=2):
            self.assertIs(apart_shown(web, 2, ("trees", (one, other))), not set(one) & set(other))

    def test_trees_with_a_fault(self):
        web = full_web(5)
        trees = trees_apart(web, 2)[1]
        faults = [(), trees[:1], trees + trees[:1], (trees[0], trees[0]), trees + ((),), ((), ())]
        for at, tree in enumerate(trees):
            rest = trees[:at] + trees[at + 1:]
            others = [tree[:-1], tree[::-1], tree + tree[-1:], tree + (99,), tree[:-1] + (FAR,),
                      (-1,) + tree[1:], rest[0]]
            for place in range(4):
                for tie in range(11):
                    others.append(tree[:place] + (tie,) + tree[place + 1:])
            faults += [rest + (other,) for other in others]
        for fault in faults:
            self.assert_shown_as(web, 2, ("trees", fault))

    def test_partings_with_a_fault(self):
        web = next(two_crowds())
        crowds = (tuple("abcd"), tuple("efgh"))
        faults = [(), ((),), crowds[::-1], crowds[:1], crowds + ((),), ((),) + crowds,
                  crowds + crowds, crowds[:1] * 2, (crowds[0] + crowds[1],), crowds + (("i",),),
                  crowds + (("",),), crowds + (("h",),), crowds + (("ab", "a"),)]
        for at, part in enumerate(crowds):
            for place, name in enumerate(part):
                left_out = part[:place] + part[place + 1:]
                others = [left_out, part + (name,), part[:place] + ("x",) + part[place + 1:],
                          left_out + (name,), (name,) + left_out, part[::-1]]
                faults += [crowds[:at] + (other,) + crowds[at + 1:] for other in others]
                moved = [left_out, tuple(sorted(crowds[1 - at] + (name,)))]
                faults += [tuple(moved), tuple(moved[::-1])]
        for fault in faults:
            for many in range(1, 5):
                self.assert_shown_as(web, many, ("parting", fault))

    def test_other_words(self):
        web = full_web(4)
        trees = trees_apart(web, 2)[1]
        parting = trees_apart(web, 3)[1]
        for word in ("", "tree", "Trees", "trees ", "partings", "parting ", "round"):
            self.assertIs(apart_shown(web, 2, (word, trees)), False)
            self.assertIs(apart_shown(web, 3, (word, parting)), False)
        self.assertIs(apart_shown(web, 2, ("parting", trees)), False)
        self.assertIs(apart_shown(web, 3, ("trees", parting)), False)

    def test_one_name(self):
        for many in range(1, 5):
            self.assertIs(apart_shown(ONE, many, ("parting", (("a",),))), False)
            for size in range(6):
                self.assertIs(apart_shown(ONE, many, ("trees", ((),) * size)), size == many)
            self.assertIs(apart_shown(ONE, many, ("trees", ((0,),) * many)), False)


class Unchanged(unittest.TestCase):
    def test_what_is_handed_in(self):
        web = full_web(5, (4, 2))
        kept = copy.deepcopy(web)
        first = [trees_apart(web, many) for many in range(1, 5)] + [most_apart(web)]
        again = [trees_apart(web, many) for many in range(1, 5)] + [most_apart(web)]
        self.assertEqual(first, again)
        told = copy.deepcopy(first[0])
        apart_shown(web, 1, first[0])
        self.assertEqual((web, first[0]), (kept, told))
        # What ties weigh does not matter here.
        self.assertEqual(trees_apart(full_web(5), 2), first[1])
        self.assertEqual(most_apart(line_web(3)), 1)


if __name__ == "__main__":
    unittest.main()
