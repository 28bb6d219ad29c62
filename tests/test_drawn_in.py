"""Webs without a tie, and with a tie drawn in ([2], [5])."""

import copy
import itertools
import unittest

from treerounds.errors import NoTie, NoWeb, TreeError
from treerounds.webs.drawn_in import web_drawn_in, web_without
from treerounds.webs.texts import read_web, web_shown

WEB = (("a", "b", "c", "d"),
       (("a", "b", 1), ("a", "c", 2), ("a", "d", 4), ("b", "c", 8), ("c", "d", 16)))


def webs_of_four():
    """All webs of four names that begin one another, weights powers of two."""
    names = ("a", "ab", "abc", "b")
    pairs = list(itertools.combinations(names, 2))
    for many in range(len(pairs) + 1):
        for some in itertools.combinations(pairs, many):
            yield names, tuple((one, other, 2 ** at) for at, (one, other) in enumerate(some))


def weight_between(web, some, others):
    """The sum of the weights of all ties from some names to others."""
    total = 0
    for one, other, weight in web[1]:
        if (one in some and other in others) or (other in some and one in others):
            total += weight
    return total


class Without(unittest.TestCase):
    def test_each_tie_of_a_web(self):
        names, ties = WEB
        self.assertEqual(web_without(WEB, 0), (names, ties[1:]))
        self.assertEqual(web_without(WEB, 2), (names, (ties[0], ties[1], ties[3], ties[4])))
        self.assertEqual(web_without(WEB, 4), (names, ties[:4]))

    def test_the_only_tie(self):
        self.assertEqual(web_without((("a", "b"), (("a", "b", 7),)), 0), (("a", "b"), ()))

    def test_all_webs(self):
        for names, ties in webs_of_four():
            for tie in range(len(ties)):
                left = tuple(row for row in ties if row != ties[tie])
                self.assertEqual(web_without((names, ties), tie), (names, left))


class DrawnIn(unittest.TestCase):
    def test_weights_are_added(self):
        self.assertEqual(web_drawn_in(WEB, 0),
                         (("a", "c", "d"), (("a", "c", 10), ("a", "d", 4), ("c", "d", 16))))
        self.assertEqual(web_drawn_in(WEB, 1),
                         (("a", "b", "d"), (("a", "b", 9), ("a", "d", 20))))
        self.assertEqual(web_drawn_in(WEB, 4),
                         (("a", "b", "c"), (("a", "b", 1), ("a", "c", 6), ("b", "c", 8))))

    def test_weights_above_nine_hundred_ninety_nine(self):
        web = read_web("a b c\na b 1\na c 999\nb c 999")
        drawn = web_drawn_in(web, 0)
        self.assertEqual(drawn, (("a", "c"), (("a", "c", 1998),)))
        self.assertEqual(web_shown(drawn), "a c\na c 1998")
        with self.assertRaises(NoWeb) as caught:
            read_web(web_shown(drawn))
        self.assertEqual(caught.exception.row, 1)
        self.assertEqual(web_drawn_in(drawn, 0), (("a",), ()))
        self.assertEqual(web_without(drawn, 0), (("a", "c"), ()))

    def test_weights_grow_on_in_a_web_drawn_in(self):
        web = read_web("a b c d\na b 999\na c 999\na d 999\nb c 999\nb d 999\nc d 999")
        drawn = web_drawn_in(web_drawn_in(web, 0), 0)
        self.assertEqual(drawn, (("a", "d"), (("a", "d", 2997),)))

    def test_the_two_names_of_a_tie_come_in_order_again(self):
        # c becomes a, and so its tie with b begins with a.
        web = (("a", "b", "c"), (("a", "c", 5), ("b", "c", 3)))
        self.assertEqual(web_drawn_in(web, 0), (("a", "b"), (("a", "b", 3),)))

    def test_ties_come_in_order_again(self):
        # d becomes a, and so its last tie comes first.
        web = (("a", "b", "c", "d"), (("a", "d", 5), ("b", "c", 3), ("b", "d", 2)))
        self.assertEqual(web_drawn_in(web, 0), (("a", "b", "c"), (("a", "b", 2), ("b", "c", 3))))

    def test_webs_that_do_not_hang_together(self):
        web = (("a", "b", "c", "d", "e"), (("a", "b", 5), ("c", "d", 3)))
        self.assertEqual(web_drawn_in(web, 0), (("a", "c", "d", "e"), (("c", "d", 3),)))
        self.assertEqual(web_drawn_in(web, 1), (("a", "b", "c", "e"), (("a", "b", 5),)))

    def test_all_webs(self):
        for web in webs_of_four():
            for tie in range(len(web[1])):
                self.check_drawn_in(web, tie, web_drawn_in(web, tie))

    def check_drawn_in(self, web, tie, drawn):
        kept, gone, _ = web[1][tie]
        names, ties = drawn
        self.assertEqual(names, tuple(name for name in web[0] if name != gone))
        pairs = [row[:2] for row in ties]
        self.assertEqual(pairs, sorted(set(pairs)))
        for one, other in pairs:
            self.assertLess(one, other)
        behind = {name: (name,) for name in names}
        behind[kept] = (kept, gone)
        for one, other in itertools.combinations(names, 2):
            told = weight_between(drawn, (one,), (other,))
            self.assertEqual(told, weight_between(web, behind[one], behind[other]))
            self.assertEqual(told > 0, (one, other) in pairs)
        self.assertEqual(read_web(web_shown(drawn)), drawn)

    def test_kinds(self):
        for drawn in (web_drawn_in(WEB, 1), web_without(WEB, 1)):
            self.assertEqual([type(part) for part in (drawn,) + drawn], [tuple] * 3)
            self.assertEqual({type(row) for row in drawn[1]}, {tuple})

    def test_twelve_names_and_twenty_four_ties(self):
        names = tuple("abcdefghijkl")
        pairs = list(itertools.combinations(names, 2))[:24]
        web = (names, tuple((one, other, 999) for one, other in pairs))
        while web[1]:
            total = sum(row[2] for row in web[1]) - web[1][-1][2]
            many = len(web[0])
            web = web_drawn_in(web, len(web[1]) - 1)
            self.assertEqual(sum(row[2] for row in web[1]), total)
            self.assertEqual(len(web[0]), many - 1)
        self.assertEqual(web, (("a",), ()))


class Refused(unittest.TestCase):
    def assert_no_tie(self, web, tie):
        for told in (web_without, web_drawn_in):
            with self.assertRaises(NoTie) as caught:
                told(web, tie)
            self.assertIs(type(caught.exception), NoTie)
            self.assertIsInstance(caught.exception, TreeError)
            self.assertIsInstance(caught.exception, ValueError)

    def test_numbers_that_are_none(self):
        for tie in (-1, -2, -5, -6, 5, 6, 24, 10 ** 6, 10 ** 5000, -10 ** 5000):
            self.assert_no_tie(WEB, tie)

    def test_webs_without_ties(self):
        for tie in (-1, 0, 1):
            self.assert_no_tie((("a",), ()), tie)
            self.assert_no_tie((("a", "b"), ()), tie)

    def test_truths_are_no_numbers(self):
        self.assert_no_tie(WEB, False)
        self.assert_no_tie(WEB, True)


class Unchanged(unittest.TestCase):
    def test_what_is_handed_in(self):
        web = copy.deepcopy(WEB)
        for tie in range(5):
            web_without(web, tie)
            web_drawn_in(web, tie)
        self.assertEqual(web, WEB)

    def test_the_same_again_is_answered_the_same(self):
        first = (web_without(WEB, 1), web_drawn_in(WEB, 1))
        web_drawn_in(WEB, 2)
        self.assertEqual((web_without(WEB, 1), web_drawn_in(WEB, 1)), first)


if __name__ == "__main__":
    unittest.main()
