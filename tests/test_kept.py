"""Kept webs and what each change does to the cheapest forest ([2], [3], [32], [33])."""

import itertools
import random
import time
import unittest

from helper import PLACES, Refusing
from treerounds.cheap.cheapest import cheapest
from treerounds.errors import NoName, NoTie
from treerounds.kept import KeptWeb
from treerounds.trees.counts import count_trees
from treerounds.webs.texts import read_web, web_shown


class Plain:
    """A kept web by a plain list of ties and a plain going through."""

    def __init__(self, names):
        self.names = names
        self.ties = {}

    def web(self):
        return self.names, tuple((one, other, self.ties[one, other])
                                 for one, other in sorted(self.ties))

    def forest(self):
        """The pairs of the cheapest forest, by the parts of names."""
        parts, kept = [{name} for name in self.names], []
        for _, pair in sorted((weight, pair) for pair, weight in self.ties.items()):
            one, other = [part for name in pair for part in parts if name in part]
            if one is not other:
                parts = [part for part in parts if part is not one and part is not other]
                parts.append(one | other)
                kept.append(pair)
        return sorted(kept)

    def put(self, pair, weight):
        """Set or take out a tie; tells what goes out of the forest and what comes in."""
        ahead = self.forest()
        self.ties.pop(pair, None)
        if weight is not None:
            self.ties[pair] = weight
        behind = self.forest()
        out = [pair for pair in ahead if pair not in behind]
        put = [pair for pair in behind if pair not in ahead]
        return (out or [None])[0], (put or [None])[0]


class Kept(Refusing):
    def check(self, kept, plain):
        """That a kept web stands as a plain one, and as one that is kept afresh."""
        web = plain.web()
        self.assertEqual(kept.web_now(), web)
        self.assertEqual(tuple(map(type, kept.web_now())), (tuple, tuple))
        pairs = [tie[:2] for tie in web[1]]
        forest = tuple(pairs.index(pair) for pair in plain.forest())
        self.assertEqual(kept.forest_now(), forest)
        self.assertIs(type(kept.forest_now()), tuple)
        self.assertEqual(kept.count_now(), count_trees(web))
        self.assertIs(kept.is_whole(), count_trees(web) > 0)
        if kept.is_whole():
            self.assertEqual(kept.forest_now(), cheapest(web, 1)[0][1])
        self.assertEqual(read_web(web_shown(web)), web)
        afresh = KeptWeb(plain.names)
        for one, other, weight in web[1][::-1]:
            afresh.put_tie(other, one, weight)
        self.assertEqual((afresh.web_now(), afresh.forest_now(), afresh.count_now()),
                         (web, forest, kept.count_now()))

    def do(self, kept, plain, one, other, weight):
        """Put in, lead or take out a tie, as is due."""
        pair = tuple(sorted((one, other)))
        if weight is None:
            told = kept.take_tie(one, other)
        elif pair in plain.ties:
            told = kept.lead_tie(one, other, weight)
        else:
            told = kept.put_tie(one, other, weight)
        self.assertIs(type(told), tuple)
        self.assertEqual(told, plain.put(pair, weight))
        return told

    def test_without_ties(self):
        kept = KeptWeb(("a",))
        self.assertEqual((kept.web_now(), kept.is_whole(), kept.count_now(), kept.forest_now()),
                         ((("a",), ()), True, 1, ()))
        kept = KeptWeb(("a", "b"))
        self.assertEqual((kept.web_now(), kept.is_whole(), kept.count_now(), kept.forest_now()),
                         ((("a", "b"), ()), False, 0, ()))

    def test_a_ring_whose_heaviest_tie_stays_out(self):
        kept = KeptWeb(("a", "b", "c", "d"))
        self.assertEqual(kept.put_tie("b", "a", 5), (None, ("a", "b")))
        self.assertEqual(kept.put_tie("b", "c", 9), (None, ("b", "c")))
        self.assertEqual(kept.put_tie("d", "c", 2), (None, ("c", "d")))
        self.assertIs(kept.is_whole(), True)
        # Of two as heavy the first, by its names, stays.
        self.assertEqual(kept.put_tie("a", "d", 9), (("b", "c"), ("a", "d")))
        self.assertEqual(kept.forest_now(), (0, 1, 3))
        self.assertEqual(kept.count_now(), 4)
        self.assertEqual(kept.lead_tie("c", "b", 10), (None, None))
        self.assertEqual(kept.lead_tie("c", "b", 8), (("a", "d"), ("b", "c")))
        self.assertEqual(kept.lead_tie("a", "d", 9), (None, None))
        self.assertEqual(kept.lead_tie("d", "c", 999), (("c", "d"), ("a", "d")))
        self.assertEqual(kept.lead_tie("c", "d", 998), (None, None))
        self.assertEqual(kept.take_tie("d", "a"), (("a", "d"), ("c", "d")))
        self.assertEqual(kept.take_tie("a", "b"), (("a", "b"), None))
        self.assertEqual(kept.take_tie("c", "b"), (("b", "c"), None))
        self.assertEqual(kept.take_tie("c", "d"), (("c", "d"), None))
        self.assertEqual(kept.web_now(), (("a", "b", "c", "d"), ()))

    def test_a_tie_that_is_out_goes_out_of_the_web(self):
        kept = KeptWeb(("a", "b", "c"))
        for one, other, weight in (("a", "b", 1), ("a", "c", 2)):
            kept.put_tie(one, other, weight)
        self.assertEqual(kept.put_tie("b", "c", 2), (None, None))
        self.assertEqual(kept.take_tie("c", "b"), (None, None))
        self.assertEqual(kept.lead_tie("c", "a", 2), (None, None))

    def test_thirty_deeds(self):
        for names in (("a", "b", "c"), tuple(PLACES[:5]), ("ab", "abc", "b", "bcdefghi", "c", "d")):
            for seed in range(8):
                chosen = random.Random(seed)
                kept, plain = KeptWeb(names), Plain(names)
                told = {}
                for _ in range(30):
                    one, other = chosen.sample(names, 2)
                    pair = tuple(sorted((one, other)))
                    weight = chosen.choice((1, 2, 2, 3, 999))
                    if pair in plain.ties and chosen.random() < 0.4:
                        weight = chosen.choice((None, plain.ties[pair]))
                    told[tuple(part is None for part in
                               self.do(kept, plain, one, other, weight))] = True
                    self.check(kept, plain)
                for one, other in list(plain.ties):
                    self.do(kept, plain, other, one, None)
                    self.check(kept, plain)
                self.assertGreater(len(told), 2)
                self.assertEqual(kept.web_now(), (names, ()))

    def test_twelve_names_and_eighty_deeds(self):
        names = tuple(PLACES)
        chosen = random.Random(8)
        kept, plain = KeptWeb(names), Plain(names)
        pairs = chosen.sample(list(itertools.combinations(names, 2)), 24)
        begun, deeds = time.perf_counter(), []
        for at, (one, other) in enumerate(pairs + chosen.choices(pairs, k=56)):
            weight = chosen.randint(1, 999)
            pair = (one, other)
            if pair in plain.ties:
                deeds.append(kept.lead_tie(other, one, weight))
            else:
                deeds.append(kept.put_tie(other, one, weight))
            if at % 4 == 0:
                kept.count_now()
            plain.ties[pair] = weight
        self.assertLess(time.perf_counter() - begun, 1)
        self.assertEqual(len(deeds), 80)
        self.check(kept, plain)
        self.assertIs(kept.is_whole(), True)

    def test_by_keywords_in_any_order(self):
        kept = KeptWeb(names=("a", "b"))
        self.assertEqual(kept.put_tie(weight=3, other="a", one="b"), (None, ("a", "b")))
        self.assertEqual(kept.lead_tie(other="a", weight=4, one="b"), (None, None))
        self.assertEqual(kept.web_now(), (("a", "b"), (("a", "b", 4),)))
        self.assertEqual(kept.take_tie(other="b", one="a"), (("a", "b"), None))

    def test_two_kept_webs_do_not_touch_one_another(self):
        names = ("a", "b", "c")
        one, other = KeptWeb(names), KeptWeb(names)
        one.put_tie("a", "b", 3)
        self.assertEqual(other.web_now(), (names, ()))
        other.put_tie("b", "c", 4)
        one.take_tie("a", "b")
        self.assertEqual(one.web_now(), (names, ()))
        self.assertEqual(other.web_now(), (names, (("b", "c", 4),)))

    def test_what_was_told_stands_behind_later_deeds(self):
        kept = KeptWeb(("a", "b", "c"))
        kept.put_tie("a", "b", 1)
        web, forest = kept.web_now(), kept.forest_now()
        kept.put_tie("b", "c", 1)
        kept.lead_tie("a", "b", 7)
        self.assertEqual((web, forest), ((("a", "b", "c"), (("a", "b", 1),)), (0,)))

    def test_listed_methods_are_the_class_s_own(self):
        for name in ("put_tie", "lead_tie", "take_tie", "web_now", "is_whole", "count_now",
                     "forest_now"):
            self.assertIn(name, vars(KeptWeb))


class Refused(Refusing):
    def deeds(self, kept):
        """The three deeds, each with its further arguments."""
        return ((kept.put_tie, (5,)), (kept.lead_tie, (5,)), (kept.take_tie, ()))

    def setUp(self):
        self.kept = KeptWeb(("a", "b", "c"))
        self.kept.put_tie("a", "b", 3)

    def stands(self):
        return self.kept.web_now(), self.kept.forest_now(), self.kept.count_now()

    def test_names_that_are_none(self):
        stood = self.stands()
        for deed, more in self.deeds(self.kept):
            for one, other, word in (("x", "a", "x"), ("a", "x", "x"), ("x", "y", "x"),
                                     ("x", "x", "x"), ("", "a", ""), ("b", "ab", "ab"),
                                     ("a", "a", "a"), ("c", "c", "c")):
                self.assert_no_name(word, deed, one, other, *more)
                self.assertEqual(self.stands(), stood)

    def test_ties_there_already_or_none(self):
        stood = self.stands()
        for one, other in (("a", "b"), ("b", "a")):
            self.assert_refused(NoTie, self.kept.put_tie, one, other, 3)
            self.assert_refused(NoTie, self.kept.put_tie, one, other, 4)
        for one, other in (("a", "c"), ("c", "a"), ("b", "c")):
            self.assert_refused(NoTie, self.kept.lead_tie, one, other, 3)
            self.assert_refused(NoTie, self.kept.take_tie, one, other)
        self.assertEqual(self.stands(), stood)

    def test_a_refused_deed_changes_nothing_of_later_ones(self):
        with self.assertRaises(NoName):
            self.kept.put_tie("c", "z", 1)
        with self.assertRaises(NoTie):
            self.kept.put_tie("b", "a", 1)
        with self.assertRaises(NoTie):
            self.kept.take_tie("b", "c")
        self.assertEqual(self.kept.put_tie("c", "b", 2), (None, ("b", "c")))
        self.assertEqual(self.kept.put_tie("c", "a", 2), (("a", "b"), ("a", "c")))
        self.assertEqual(self.kept.web_now()[1], (("a", "b", 3), ("a", "c", 2), ("b", "c", 2)))

    def test_taken_out_and_put_in_again(self):
        self.assertEqual(self.kept.take_tie("b", "a"), (("a", "b"), None))
        self.assert_refused(NoTie, self.kept.take_tie, "a", "b")
        self.assert_refused(NoTie, self.kept.lead_tie, "a", "b", 3)
        self.assertEqual(self.kept.put_tie("b", "a", 8), (None, ("a", "b")))
        self.assertEqual(self.kept.web_now()[1], (("a", "b", 8),))

    def test_one_name(self):
        kept = KeptWeb(("a",))
        for deed, more in self.deeds(kept):
            self.assert_no_name("a", deed, "a", "a", *more)
            self.assert_no_name("b", deed, "a", "b", *more)
            self.assert_no_name("b", deed, "b", "a", *more)


if __name__ == "__main__":
    unittest.main()
