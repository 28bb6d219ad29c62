"""What a tree has: ends, ways, cuts and rounds; trees by ends ([2], [3], [34], [35], [36])."""

import copy
import itertools
import random
import time
import unittest

from helper import (PLACES, Refusing, all_webs, full_web, great_web, line_web, plain_trees,
                    ring_web, small_webs, spans, web_of_pairs)
from treerounds.errors import NoTree
from treerounds.trees.counts import count_trees
from treerounds.trees.looks import (cuts_and_rounds, ends_by_name, ends_of, longest_way,
                                    trees_by_ends, way_sum)
from treerounds.trees.orders import first_tree
from treerounds.trees.trees import way_in

ONE = (("a",), ())
FAR = 10 ** 5000
# a-b 0, a-c 1, a-d 2, b-c 3, c-d 4.
WEB = web_of_pairs(4, ["ab", "ac", "ad", "bc", "cd"], (7, 1, 2))
LOOKS = (ends_of, longest_way, way_sum, cuts_and_rounds)


def plain_way(web, tree, one, other):
    """The names along the way from one name to another, by going on from name to name."""
    ways = [(one,)]
    for way in ways:
        if way[-1] == other:
            return way
        for tie in tree:
            pair = web[1][tie][:2]
            if way[-1] in pair:
                there = pair[1] if way[-1] == pair[0] else pair[0]
                if there not in way:
                    ways.append(way + (there,))
    return None


def plain_ends(web, tree):
    """The names with one tie."""
    return tuple(name for name in web[0]
                 if len([tie for tie in tree if name in web[1][tie][:2]]) == 1)


def plain_looks(web, tree):
    """The ends, what the longest way has, the sum of ways, and all cuts and rounds."""
    ways = [plain_way(web, tree, one, other)
            for one, other in itertools.combinations_with_replacement(web[0], 2)]
    length = max(len(way) for way in ways) - 1
    middles = {tuple(sorted(set((way[length // 2], way[(length + 1) // 2]))))
               for way in ways if len(way) == length + 1}
    assert len(middles) == 1
    table = []
    for tie in range(len(web[1])):
        others = range(len(web[1]))
        if tie in tree:
            left = set(tree) - {tie}
            table.append(tuple(at for at in others if at not in left and spans(web, left | {at})))
        else:
            table.append(tuple(at for at in others if at == tie or at in tree
                               and spans(web, set(tree) - {at} | {tie})))
    return (plain_ends(web, tree), (length, middles.pop()), sum(len(way) - 1 for way in ways),
            tuple(table))


def looks_of(web, tree):
    """What the program tells."""
    return tuple(look(web, tree) for look in LOOKS)


class Looks(Refusing):
    def test_webs(self):
        for web in small_webs((3, 1, 999)):
            for tree in plain_trees(web)[:60]:
                told = looks_of(web, tree)
                self.assertEqual(told, plain_looks(web, tree), (web, tree))
                self.assertEqual([type(part) for part in told], [tuple, tuple, int, tuple])
                self.assertEqual([type(part) for part in told[1]], [int, tuple])
                self.assertTrue(all(type(part) is tuple for part in told[3]))

    def test_great_trees(self):
        chosen = random.Random(17)
        web = great_web((4, 1))
        for _ in range(20):
            order = chosen.sample(range(24), 24)
            tree = tuple(sorted(tie for at, tie in enumerate(order)
                                if not self.closes(web, order[:at], tie)))
            begun = time.perf_counter()
            told = looks_of(web, tree)
            self.assertLess(time.perf_counter() - begun, 1)
            self.assertEqual(told, plain_looks(web, tree))

    def closes(self, web, ahead, tie):
        """Whether a tie makes a way round with those ahead of it."""
        return plain_way(web, ahead, web[1][tie][0], web[1][tie][1]) is not None

    def test_edges(self):
        self.assertEqual(looks_of(ONE, ()), ((), (0, ("a",)), 0, ()))
        self.assertEqual(looks_of(line_web(2), (0,)), (("a", "b"), (1, ("a", "b")), 1, ((0,),)))
        self.assertEqual(looks_of(line_web(3), (0, 1)),
                         (("a", "c"), (2, ("b",)), 4, ((0,), (1,))))
        self.assertEqual(looks_of(line_web(4), (0, 1, 2)),
                         (("a", "d"), (3, ("b", "c")), 10, ((0,), (1,), (2,))))

    def test_a_row_whose_names_are_not_in_order(self):
        web = web_of_pairs(4, ["ad", "ac", "bd"])
        self.assertEqual(longest_way(web, (0, 1, 2)), (3, ("a", "d")))
        self.assertEqual(ends_of(web, (0, 1, 2)), ("b", "c"))

    def test_a_star(self):
        web = web_of_pairs(12, [("e", name) for name in PLACES if name != "e"])
        tree = tuple(range(11))
        self.assertEqual(ends_of(web, tree), tuple(name for name in PLACES if name != "e"))
        self.assertEqual(longest_way(web, tree), (2, ("e",)))
        self.assertEqual(way_sum(web, tree), 11 + 2 * 55)

    def test_a_row_of_twelve(self):
        web, tree = line_web(12, (5,)), tuple(range(11))
        self.assertEqual(longest_way(web, tree), (11, ("f", "g")))
        self.assertEqual(way_sum(web, tree), sum(far * (12 - far) for far in range(12)))

    def test_cuts_and_rounds(self):
        self.assertEqual(cuts_and_rounds(WEB, (0, 1, 2)),
                         ((0, 3), (1, 3, 4), (2, 4), (0, 1, 3), (1, 2, 4)))
        for web in (full_web(5), ring_web(6)):
            for tree in plain_trees(web)[::7]:
                table = cuts_and_rounds(web, tree)
                for one, other in itertools.product(range(len(web[1])), repeat=2):
                    if one not in tree and other in tree:
                        self.assertEqual(other in table[one], one in table[other])
                    if one not in tree:
                        way = way_in(web, tree, web[1][one][0], web[1][one][1])
                        self.assertEqual(table[one], tuple(sorted(way + (one,))))

    def test_by_keywords_in_any_order(self):
        for look in LOOKS:
            self.assertEqual(look(tree=(0, 1, 2), web=WEB), look(WEB, (0, 1, 2)))
        self.assertEqual(trees_by_ends(web=WEB), trees_by_ends(WEB))
        self.assertEqual(ends_by_name(web=WEB), ends_by_name(WEB))

    def test_rows_that_are_no_trees(self):
        for look in LOOKS:
            for row in ((), (0,), (0, 1), (0, 1, 3), (2, 1, 0), (0, 0, 1), (0, 1, 1, 2), (0, 1, 2, 3),
                        (-1, 0, 1), (0, 1, 5), (0, 1, FAR), (-FAR, 0, 1), (0, 1, True)):
                self.assert_refused(NoTree, look, WEB, row)
            self.assert_refused(NoTree, look, ONE, (0,))
            self.assert_refused(NoTree, look, (("a", "b"), ()), ())
            self.assert_refused(NoTree, look, web_of_pairs(4, ["ab", "cd"]), (0, 1))


class ByEnds(unittest.TestCase):
    def check(self, web):
        trees = plain_trees(web)
        ends = [plain_ends(web, tree) for tree in trees]
        by_ends = trees_by_ends(web)
        self.assertIs(type(by_ends), tuple)
        self.assertEqual(by_ends, tuple([len(some) for some in ends].count(many)
                                        for many in range(len(web[0]) + 1)))
        by_name = ends_by_name(web)
        self.assertIs(type(by_name), tuple)
        self.assertEqual(by_name, tuple(sum(name in some for some in ends) for name in web[0]))

    def test_webs(self):
        for web in small_webs((2, 5)):
            self.check(web)
        for web in list(all_webs(5))[::5]:
            self.check(web)

    def test_edges(self):
        self.assertEqual((trees_by_ends(ONE), ends_by_name(ONE)), ((1, 0), (0,)))
        self.assertEqual((trees_by_ends(line_web(2)), ends_by_name(line_web(2))),
                         ((0, 0, 1), (1, 1)))
        self.assertEqual((trees_by_ends((("a", "b"), ())), ends_by_name((("a", "b"), ()))),
                         ((0, 0, 0), (0, 0)))
        self.assertEqual(trees_by_ends(full_web(4)), (0, 0, 12, 4, 0))
        self.assertEqual(ends_by_name(full_web(4)), (9,) * 4)

    def test_seven_names_and_fourteen_ties(self):
        web = web_of_pairs(7, ["ab", "ae", "af", "ag", "bc", "bd", "be", "cd", "cf", "cg", "de",
                               "df", "eg", "fg"])
        self.assertGreater(count_trees(web), 1000)
        begun = time.perf_counter()
        by_ends, by_name = trees_by_ends(web), ends_by_name(web)
        self.assertLess(time.perf_counter() - begun, 1)
        self.assertEqual(sum(by_ends), count_trees(web))
        self.check(web)
        for name, many in zip(web[0], by_name):
            # Where a name is an end, its tie may be any of its own, on any tree of the others.
            rest = (tuple(other for other in web[0] if other != name),
                    tuple(tie for tie in web[1] if name not in tie[:2]))
            self.assertEqual(many, (len(web[1]) - len(rest[1])) * count_trees(rest))

    def test_twelve_names_and_thirteen_ties(self):
        web = web_of_pairs(12, [(PLACES[at], PLACES[(at + 1) % 12]) for at in range(12)] + ["ag"])
        begun = time.perf_counter()
        by_ends, by_name = trees_by_ends(web), ends_by_name(web)
        self.assertLess(time.perf_counter() - begun, 1)
        self.assertEqual(sum(by_ends), count_trees(web))
        self.assertEqual(sum(many * at for at, many in enumerate(by_ends)), sum(by_name))
        self.check(web)


class Unchanged(unittest.TestCase):
    def test_what_is_handed_in(self):
        web = full_web(5, (4, 2))
        kept, tree = copy.deepcopy(web), first_tree(web)
        first = (looks_of(web, tree), trees_by_ends(web), ends_by_name(web))
        again = (looks_of(web, tree), trees_by_ends(web), ends_by_name(web))
        self.assertEqual(first, again)
        self.assertEqual((web, tree), (kept, (0, 1, 2, 3)))


if __name__ == "__main__":
    unittest.main()
