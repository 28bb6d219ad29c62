"""Heaps of arrows and what popping leaves ([2], [3], [19], [20])."""

import copy
import itertools
import random
import time
import unittest

from helper import PLACES, Refusing, full_web, great_web, line_web, ring_web, small_webs, spans
from treerounds.drawn.heaps import pop_paper, popped, pops_shown
from treerounds.errors import NoEnd

# Ties a-b 0, a-c 1, b-c 2.
THREE = full_web(3)
ONE = (("a",), ())


def tied_with(web, name):
    """The names that a name is tied with."""
    return [one if other == name else other for one, other, _ in web[1] if name in (one, other)]


def heaps_by_chance(web, root, chosen, longest):
    """Heaps of at least one arrow for all names but the root, their keys in any order."""
    names = [name for name in web[0] if name != root]
    chosen.shuffle(names)
    return {name: tuple(chosen.choice(tied_with(web, name))
                        for _ in range(chosen.randint(1, longest))) for name in names}


def rounds_on_top(tops):
    """All rounds of some top arrows, by a plain going round from each name."""
    found = set()
    for name in tops:
        way = [name]
        while tops.get(way[-1]) is not None and tops[way[-1]] not in way:
            way.append(tops[way[-1]])
        if tops.get(way[-1]) == name and name == min(way):
            found.add(tuple(way))
    return sorted(found)


def plain_popping(web, root, heaps, choose):
    """(tree, gone, rounds), each round chosen of all on top, or None where a heap ends."""
    gone = {name: 0 for name in web[0] if name != root}
    rounds = []
    while True:
        if any(gone[name] == len(heaps[name]) for name in gone):
            return None
        tops = {name: heaps[name][gone[name]] for name in gone}
        found = rounds_on_top(tops)
        if not found:
            numbers = {row[:2]: at for at, row in enumerate(web[1])}
            tree = sorted(numbers[tuple(sorted(pair))] for pair in tops.items())
            return tuple(tree), gone, rounds
        rounds.append(choose(found))
        for name in rounds[-1]:
            gone[name] += 1


class Popped(Refusing):
    def test_edges(self):
        self.assertEqual(popped(ONE, "a", {}), ((), {}))
        self.assertEqual(popped(line_web(2), "a", {"b": ("a",)}), ((0,), {"b": 0}))
        self.assertEqual(popped(line_web(3), "b", {"c": ("b",), "a": ("b", "b")}),
                         ((0, 1), {"a": 0, "c": 0}))

    def test_two_names_that_show_at_one_another(self):
        heaps = {"b": ("c", "a"), "c": ("b", "b")}
        self.assertEqual(popped(THREE, "a", heaps), ((0, 2), {"b": 1, "c": 1}))
        self.assertEqual(pop_paper(THREE, "a", heaps), [("b", "c")])

    def test_a_longer_round(self):
        web = full_web(4)
        heaps = {"b": ("d", "a"), "c": ("b", "b", "a"), "d": ("c", "c")}
        self.assertEqual(popped(web, "a", heaps), ((0, 3, 5), {"b": 1, "c": 1, "d": 1}))
        self.assertEqual(pop_paper(web, "a", heaps), [("b", "d", "c")])

    def test_arrows_beneath_that_are_not_reached(self):
        heaps = {"b": ("a", "c"), "c": ("b", "b")}
        self.assertEqual(popped(THREE, "a", heaps), ((0, 2), {"b": 0, "c": 0}))
        self.assertEqual(pop_paper(THREE, "a", heaps), [])

    def test_each_root(self):
        self.assertEqual(popped(THREE, "c", {"a": ("b", "c"), "b": ("a", "a")}),
                         ((0, 1), {"a": 1, "b": 1}))
        self.assertEqual(popped(THREE, "b", {"a": ("c", "b"), "c": ("a", "a")}),
                         ((0, 1), {"a": 1, "c": 1}))

    def test_whatever_round_goes_first(self):
        chosen = random.Random(11)
        seen = {True: 0, False: 0}
        for web in (THREE, full_web(4), ring_web(4), full_web(5), ring_web(6), great_web()):
            for _ in range(150):
                root = chosen.choice(web[0])
                heaps = heaps_by_chance(web, root, chosen, 8)
                first = plain_popping(web, root, heaps, lambda found: found[0])
                last = plain_popping(web, root, heaps, lambda found: found[-1])
                seen[first is None] += 1
                if first is None:
                    self.assertIsNone(last)
                    self.assert_refused(NoEnd, popped, web, root, heaps)
                    self.assert_refused(NoEnd, pop_paper, web, root, heaps)
                    continue
                self.assertEqual(first[:2], last[:2])
                self.check_popped(web, root, heaps, first)
                for rounds in (first[2], last[2]):
                    self.assertIs(pops_shown(web, root, heaps, rounds), True)
        self.assertGreater(min(seen.values()), 50)

    def check_popped(self, web, root, heaps, told):
        tree, gone = popped(web, root, heaps)
        self.assertEqual((tree, gone), told[:2])
        self.assertEqual((type(tree), type(gone)), (tuple, dict))
        self.assertTrue(spans(web, tree))
        rounds = pop_paper(web, root, heaps)
        self.assertEqual({name: sum(name in row for row in rounds) for name in gone}, gone)
        self.assertIs(pops_shown(web, root, heaps, rounds), True)
        for row in rounds:
            self.assertIs(type(row), tuple)
            self.assertEqual(row[0], min(row))
        backward = dict(reversed(list(heaps.items())))
        self.assertEqual(popped(web, root, backward), (tree, gone))
        self.assertIs(pops_shown(web, root, backward, rounds), True)

    def test_heaps_of_thirty_two_arrows(self):
        web = great_web()
        heaps = {name: (PLACES[PLACES.index(name) ^ 1],) * 31 + (PLACES[at],)
                 for at, name in enumerate(PLACES[1:])}
        begun = time.perf_counter()
        told = plain_popping(web, "a", heaps, lambda found: found[0])
        tree, gone = popped(web, "a", heaps)
        self.assertLess(time.perf_counter() - begun, 2)
        self.assertEqual((tree, gone), told[:2])
        self.assertEqual(gone, {name: 0 if name == "b" else 31 for name in PLACES[1:]})
        self.assertEqual(len(pop_paper(web, "a", heaps)), 31 * 5)


class NoEnds(Refusing):
    def assert_no_end(self, web, root, heaps):
        self.assert_refused(NoEnd, popped, web, root, heaps)
        self.assert_refused(NoEnd, pop_paper, web, root, heaps)

    def test_at_first(self):
        self.assert_no_end(line_web(2), "a", {"b": ()})
        self.assert_no_end(THREE, "a", {"b": (), "c": ()})
        self.assert_no_end(THREE, "a", {"b": ("a",), "c": ()})
        self.assert_no_end(THREE, "a", {"b": (), "c": ("a", "b")})

    def test_by_popping(self):
        self.assert_no_end(THREE, "a", {"b": ("c",), "c": ("b",)})
        self.assert_no_end(THREE, "a", {"b": ("c", "a"), "c": ("b",)})
        self.assert_no_end(THREE, "a", {"b": ("c",), "c": ("b", "a")})
        self.assert_no_end(THREE, "a", {"b": ("c", "c", "a"), "c": ("b", "b")})

    def test_names_that_do_not_hang_together(self):
        web = (("a", "b", "c", "d"), (("a", "b", 1), ("c", "d", 1)))
        self.assert_no_end(web, "a", {"b": ("a",), "c": ("d",) * 3, "d": ("c",) * 5})

    def test_all_small_heaps_of_three(self):
        rows = {name: [row for size in range(4) for row in
                       itertools.product(tied_with(THREE, name), repeat=size)] for name in "bc"}
        for one, other in itertools.product(rows["b"], rows["c"]):
            heaps = {"c": other, "b": one}
            told = plain_popping(THREE, "a", heaps, lambda found: found[0])
            if told is None:
                self.assert_no_end(THREE, "a", heaps)
                self.assertIs(pops_shown(THREE, "a", heaps, []), False)
            else:
                self.assertEqual(popped(THREE, "a", heaps), told[:2])
                self.assertEqual(pop_paper(THREE, "a", heaps), told[2])


class Lookers(unittest.TestCase):
    def test_all_papers_of_heaps_of_three(self):
        rows = [(), ("b",), ("c",), ("a",), ("b", "c"), ("c", "b"), ("b", "a"), ("b", "b"), ("x",),
                ("b", "c", "b"), ("a", "b", "c")]
        for one, other in itertools.product([("c", "a"), ("c", "c", "a"), ("a",), (), ("c",)],
                                            [("b", "a"), ("b", "b", "b"), ("a",), ("b",)]):
            heaps = {"b": one, "c": other}
            told = plain_popping(THREE, "a", heaps, lambda found: found[0])
            for size in range(4):
                for some in itertools.product(rows, repeat=size):
                    good = told is not None and list(some) == told[2]
                    self.assertIs(pops_shown(THREE, "a", heaps, list(some)), good, (heaps, some))

    def test_papers_with_a_fault(self):
        web = full_web(5)
        heaps = {"b": ("c", "d", "a"), "c": ("b", "e", "e", "a"), "d": ("e", "b", "a"),
                 "e": ("d", "c", "d", "b")}
        rounds = pop_paper(web, "a", heaps)
        self.assertGreaterEqual(len(rounds), 3)
        self.assertIs(pops_shown(web, "a", heaps, rounds), True)
        for at, row in enumerate(rounds):
            left_out = rounds[:at] + rounds[at + 1:]
            faults = [left_out, rounds[:at + 1] + rounds[at:], rounds[:at] + [()] + rounds[at:]]
            for wrong in (row[1:] + row[:1], row + row, row[:1], ("a",) + row, row + ("x",),
                          ("x", "y"), row[:1] + row[2:] + row[1:2] if len(row) > 2 else ()):
                faults.append(rounds[:at] + [wrong] + rounds[at + 1:])
            for fault in faults:
                self.assertIs(pops_shown(web, "a", heaps, fault), False, fault)
        self.assertIs(pops_shown(web, "a", heaps, rounds + [rounds[-1]]), False)
        self.assertIs(pops_shown(web, "a", heaps, []), False)

    def test_rounds_in_any_order_that_the_heaps_let(self):
        web = full_web(5)
        heaps = {"b": ("c", "a"), "c": ("b", "a"), "d": ("e", "a"), "e": ("d", "a")}
        self.assertIs(pops_shown(web, "a", heaps, [("b", "c"), ("d", "e")]), True)
        self.assertIs(pops_shown(web, "a", heaps, [("d", "e"), ("b", "c")]), True)
        self.assertIs(pops_shown(web, "a", heaps, [("d", "e")]), False)
        self.assertIs(pops_shown(web, "a", heaps, [("b", "c")]), False)

    def test_a_round_turned_about(self):
        heaps = {"b": ("c", "a"), "c": ("d", "a"), "d": ("b", "a")}
        self.assertIs(pops_shown(full_web(4), "a", heaps, [("b", "c", "d")]), True)
        for wrong in (("b", "d", "c"), ("c", "d", "b"), ("d", "b", "c"), ("d", "c", "b"),
                      ("b", "c"), ("c", "d"), ("b", "d")):
            self.assertIs(pops_shown(full_web(4), "a", heaps, [wrong]), False)

    def test_a_round_at_the_wrong_turn(self):
        heaps = {"b": ("c", "d", "a"), "c": ("b", "a"), "d": ("b", "a")}
        self.assertIs(pops_shown(full_web(4), "a", heaps, [("b", "c"), ("b", "d")]), True)
        self.assertIs(pops_shown(full_web(4), "a", heaps, [("b", "d"), ("b", "c")]), False)

    def test_heaps_at_their_end(self):
        web = line_web(3)
        self.assertIs(pops_shown(web, "a", {"b": ("a",), "c": ("b",)}, []), True)
        self.assertIs(pops_shown(web, "a", {"b": ("a",), "c": ()}, []), False)
        self.assertIs(pops_shown(web, "a", {"b": (), "c": ("b",)}, []), False)
        heaps = {"b": ("c",), "c": ("b",)}
        self.assertIs(pops_shown(web, "a", heaps, [("b", "c")]), False)
        self.assertIs(pops_shown(web, "a", heaps, [("b", "c"), ("b", "c")]), False)
        self.assertIs(pops_shown(ONE, "a", {}, []), True)
        self.assertIs(pops_shown(ONE, "a", {}, [()]), False)
        self.assertIs(pops_shown(ONE, "a", {}, [("a",)]), False)


class Unchanged(unittest.TestCase):
    def test_what_is_handed_in_and_told(self):
        web = full_web(4)
        heaps = {"d": ("c", "c"), "b": ("d", "a"), "c": ("b", "b", "a")}
        kept = copy.deepcopy((web, heaps))
        told, rounds = popped(web, "a", heaps), pop_paper(web, "a", heaps)
        again = copy.deepcopy((told, rounds))
        self.assertIs(pops_shown(web, "a", heaps, rounds), True)
        self.assertEqual((told, rounds), again)
        told[1].clear()
        told[1]["b"] = 99
        rounds.clear()
        self.assertEqual((popped(web, "a", heaps), pop_paper(web, "a", heaps)), again)
        self.assertEqual((web, heaps), kept)
        self.assertEqual(list(heaps), ["d", "b", "c"])

    def test_what_becomes_of_the_heaps_later(self):
        heaps = {"b": ("c", "a"), "c": ("b", "b")}
        told = popped(THREE, "a", heaps)
        heaps.clear()
        self.assertEqual(told, ((0, 2), {"b": 1, "c": 1}))


if __name__ == "__main__":
    unittest.main()
