"""Led trees of arrow webs ([2], [3], [23])."""

import copy
import itertools
import random
import time
import unittest

from helper import (PLACES, Refusing, arrow_web, even_arrow_webs, great_arrow_web, plain_led,
                    small_arrow_webs)
from treerounds.led.led_trees import count_led, led_trees

ONE = (("a",), ())
# a-b 0, a-b 1, b-a 2, b-c 3, c-a 4.
WEB = arrow_web(3, ["ab", "ab", "ba", "bc", "ca"])


class Told(Refusing):
    def check(self, web, root):
        told = led_trees(web, root)
        self.assertIs(type(told), list)
        self.assertEqual(told, plain_led(web, root), (web, root))
        self.assertTrue(all(type(tree) is tuple for tree in told))
        self.assertEqual(count_led(web, root), len(told), (web, root))

    def test_known_webs(self):
        self.assertEqual(led_trees(WEB, "a"), [(2, 4), (3, 4)])
        self.assertEqual(led_trees(WEB, "b"), [(0, 4), (1, 4)])
        self.assertEqual(led_trees(WEB, "c"), [(0, 3), (1, 3)])
        for root in "abc":
            self.assertEqual(count_led(WEB, root), 2)

    def test_one_name(self):
        self.assertEqual(led_trees(ONE, "a"), [()])
        self.assertEqual(count_led(ONE, "a"), 1)

    def test_no_arrows(self):
        for many in range(2, 6):
            self.assertEqual(led_trees(arrow_web(many, []), "b"), [])
            self.assertEqual(count_led(arrow_web(many, []), "b"), 0)

    def test_arrows_alike_make_trees_of_their_own(self):
        web = arrow_web(2, ["ab"] * 3 + ["ba"] * 2)
        self.assertEqual(led_trees(web, "b"), [(0,), (1,), (2,)])
        self.assertEqual(led_trees(web, "a"), [(3,), (4,)])
        self.assertEqual((count_led(web, "b"), count_led(web, "a")), (3, 2))

    def test_two_parts_and_names_without_arrows(self):
        for root in "abcd":
            self.check(arrow_web(4, ["ab", "ba", "cd", "dc"]), root)
            self.check(arrow_web(4, ["ab", "bc", "ca"]), root)

    def test_one_way_alone(self):
        web = arrow_web(4, ["ab", "bc", "cd"])
        self.assertEqual([led_trees(web, root) for root in "abcd"], [[], [], [], [(0, 1, 2)]])
        self.assertEqual([count_led(web, root) for root in "abcd"], [0, 0, 0, 1])

    def test_small_webs(self):
        for web in itertools.chain(small_arrow_webs(), even_arrow_webs()):
            for root in web[0]:
                self.check(web, root)

    def test_by_keywords_in_any_order(self):
        self.assertEqual(led_trees(root="c", web=WEB), [(0, 3), (1, 3)])
        self.assertEqual(count_led(root="c", web=WEB), 2)


class Refused(Refusing):
    def test_roots_that_are_none(self):
        for function in (led_trees, count_led):
            for word in ("d", "", "ab", "A", "x"):
                self.assert_no_name(word, function, WEB, word)
            self.assert_no_name("b", function, ONE, "b")


class Great(unittest.TestCase):
    def test_twelve_names_and_twenty_four_arrows(self):
        web = great_arrow_web()
        begun = time.perf_counter()
        told = [count_led(web, root) for root in web[0]]
        self.assertLess(time.perf_counter() - begun, 1)
        # All names are alike here, and of the trees to one root all are told.
        self.assertEqual(len(set(told)), 1)
        begun = time.perf_counter()
        trees = led_trees(web, "e")
        self.assertLess(time.perf_counter() - begun, 1)
        self.assertEqual(len(trees), told[0])
        self.assertEqual(sorted(set(trees)), trees)

    def test_some_thousand_trees(self):
        # Each name leads twice to the next one, and some over it, too: any way leads to the last.
        row = [(PLACES[at], PLACES[at + 1]) for at in range(11)] * 2
        for more, many in (([], 2 ** 11), (["ac", "bd"], 9 * 2 ** 9)):
            web = arrow_web(12, row + more)
            begun = time.perf_counter()
            self.assertEqual(len(set(led_trees(web, "l"))), many)
            self.assertEqual(count_led(web, "l"), many)
            self.assertLess(time.perf_counter() - begun, 1)
            self.assertEqual(led_trees(web, "a"), [])

    def test_arrows_that_lead_about_and_never_to_the_root(self):
        chosen = random.Random(9)
        pairs = list(itertools.permutations(PLACES[:11], 2))
        for _ in range(20):
            web = arrow_web(12, chosen.sample(pairs, 24))
            begun = time.perf_counter()
            self.assertEqual(led_trees(web, "l"), [])
            self.assertEqual(count_led(web, "l"), 0)
            self.assertLess(time.perf_counter() - begun, 1)


class Unchanged(unittest.TestCase):
    def test_what_is_handed_in_and_told(self):
        web = copy.deepcopy(WEB)
        told = led_trees(web, "a")
        again = list(told)
        told.clear()
        self.assertEqual(led_trees(web, "a"), again)
        self.assertEqual(count_led(web, "a"), len(again))
        self.assertEqual(web, WEB)


if __name__ == "__main__":
    unittest.main()
