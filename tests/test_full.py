"""Full trees of all places, and their words ([2], [3], [26], [27])."""

import copy
import itertools
import time
import unittest

from helper import PLACES, Refusing
from treerounds.errors import NoName, NoNumber, NoTree
from treerounds.words.full import count_full, count_full_with, full_tree_at, tree_of, word_of

ODD = ("ab", "abc", "b", "bcdefghi", "c")
FAR = 10 ** 5000


def plain_full(names):
    """All full trees of some names, by going through all rows of as many pairs."""
    for pairs in itertools.combinations(itertools.combinations(names, 2), len(names) - 1):
        reached = [names[0]]
        for name in reached:
            for pair in pairs:
                reached += [other for other in pair if name in pair and other not in reached]
        if len(reached) == len(names):
            yield pairs


def plain_word(names, tree):
    """The word of a full tree, by its own telling."""
    left, here, word = list(tree), list(names), []
    while len(here) > 2:
        for name in here:
            ties = [pair for pair in left if name in pair]
            if len(ties) == 1:
                break
        word.append([other for other in ties[0] if other != name][0])
        left.remove(ties[0])
        here.remove(name)
    return tuple(word)


def some_names():
    """Names of two to five."""
    for many in range(2, 6):
        yield tuple(PLACES[:many])
    yield ODD


class Words(Refusing):
    def test_known_words(self):
        self.assertEqual(word_of(("a", "b"), (("a", "b"),)), ())
        self.assertEqual(tree_of(("a", "b"), ()), (("a", "b"),))
        star = tuple(("a", name) for name in "bcdef")
        self.assertEqual(word_of(tuple("abcdef"), star), ("a",) * 4)
        row = tuple(zip("abcde", "bcdef"))
        self.assertEqual(word_of(tuple("abcdef"), row), ("b", "c", "d", "e"))
        self.assertEqual(tree_of(tuple("abcdef"), ("d", "d", "d", "e")),
                         (("a", "d"), ("b", "d"), ("c", "d"), ("d", "e"), ("e", "f")))

    def test_all_full_trees_of_two_to_five_names(self):
        for names in some_names():
            words = []
            for tree in plain_full(names):
                word = word_of(names, tree)
                self.assertIs(type(word), tuple)
                self.assertEqual(word, plain_word(names, tree))
                self.assertEqual(tree_of(names, word), tree)
                words.append(word)
            self.assertEqual(sorted(words),
                             list(itertools.product(names, repeat=len(names) - 2)))

    def test_all_words_of_two_to_five_names(self):
        for names in some_names():
            trees = sorted(plain_full(names))
            told = [tree_of(names, word)
                    for word in itertools.product(names, repeat=len(names) - 2)]
            self.assertEqual(sorted(told), trees)
            for tree in told:
                self.assertTrue(all(type(pair) is tuple for pair in tree))

    def test_by_keywords_in_any_order(self):
        self.assertEqual(word_of(tree=(("a", "b"), ("b", "c")), names=("a", "b", "c")), ("b",))
        self.assertEqual(tree_of(word=("b",), names=("a", "b", "c")), (("a", "b"), ("b", "c")))
        self.assertEqual(count_full(many=4), 16)
        self.assertEqual(count_full_with(ties={"a": 1, "b": 1}, names=("a", "b")), 1)
        self.assertEqual(full_tree_at(number=0, names=("a", "b")), (("a", "b"),))


class NoTrees(Refusing):
    def test_all_tuples_of_pairs(self):
        for names in (("a", "b"), ("a", "b", "c")):
            good = list(plain_full(names))
            pairs = list(itertools.product(names + ("x",), repeat=2))
            for size in range(4):
                for told in itertools.product(pairs, repeat=size):
                    if told in good:
                        self.assertEqual(word_of(names, told), plain_word(names, told))
                    else:
                        self.assert_refused(NoTree, word_of, names, told)

    def test_all_rows_of_pairs_in_order_of_four(self):
        names = tuple("abcd")
        good = list(plain_full(names))
        for size in range(7):
            for told in itertools.combinations(itertools.combinations(names, 2), size):
                if told not in good:
                    self.assert_refused(NoTree, word_of, names, told)

    def test_trees_with_a_fault(self):
        names = tuple("abcde")
        for tree in plain_full(names):
            faults = [tree[::-1], tree + tree[:1], tree[:-1], tree + (("a", "z"),), tree + (("e", "f"),)]
            for at, (one, other) in enumerate(tree):
                for pair in ((other, one), (one, one), (one, "f"), ("", other), ("A", other),
                             tree[at - 1], ("x", "y")):
                    faults.append(tree[:at] + (pair,) + tree[at + 1:])
            for fault in faults:
                self.assert_refused(NoTree, word_of, names, fault)

    def test_a_round_and_a_name_left_over(self):
        self.assert_refused(NoTree, word_of, tuple("abcd"), (("a", "b"), ("a", "c"), ("b", "c")))


class NoWords(Refusing):
    def test_names_that_are_none(self):
        names = tuple("abcd")
        self.assert_no_name("x", tree_of, names, ("x", "y"))
        self.assert_no_name("y", tree_of, names, ("a", "y"))
        self.assert_no_name("", tree_of, names, ("", "a"))
        self.assert_no_name("ab", tree_of, names, ("d", "ab"))
        self.assert_no_name("c", tree_of, ("a", "b"), ("c",))

    def test_no_name_comes_ahead_of_no_number(self):
        names = tuple("abcd")
        for size in (0, 1, 3, 9):
            self.assert_refused(NoNumber, tree_of, names, ("a",) * size)
            self.assert_no_name("x", tree_of, names, ("a",) * size + ("x", "a", "y"))
            self.assert_refused(NoNumber, tree_of, names, ("d", "a") + ("b",) * (size + 1))
        self.assert_refused(NoNumber, tree_of, ("a", "b"), ("a",))
        self.assert_refused(NoName, tree_of, ("a", "b"), ("a", "c"))

    def test_all_words_of_other_lengths(self):
        for names in some_names():
            for size in range(5):
                if size != len(names) - 2:
                    for word in itertools.product(names, repeat=size):
                        self.assert_refused(NoNumber, tree_of, names, word)


class Counts(unittest.TestCase):
    def test_how_many(self):
        told = [count_full(many) for many in range(1, 13)]
        self.assertEqual(told, [1, 1, 3, 16, 125, 1296, 16807, 262144, 4782969, 10 ** 8,
                                11 ** 9, 12 ** 10])
        for names in some_names():
            self.assertEqual(count_full(len(names)), len(list(plain_full(names))))

    def test_with_told_numbers_of_ties(self):
        for names in some_names():
            found = {}
            for tree in plain_full(names):
                ties = tuple(sum(name in pair for pair in tree) for name in names)
                found[ties] = found.get(ties, 0) + 1
            for ties in itertools.product(range(-1, len(names) + 1), repeat=len(names)):
                told = dict(zip(names, ties))
                self.assertEqual(count_full_with(names, told), found.get(ties, 0))
                turned = dict(reversed(list(told.items())))
                self.assertEqual(count_full_with(names, turned), found.get(ties, 0))

    def test_far_numbers(self):
        for one, other in ((FAR, -FAR), (FAR, 2 - FAR), (-FAR, FAR + 2), (3, -1), (0, 2), (FAR, FAR)):
            self.assertEqual(count_full_with(("a", "b"), {"a": one, "b": other}), 0)
            self.assertEqual(count_full_with(("a", "b", "c"), {"a": one, "b": other, "c": 2}), 0)

    def test_twelve_names(self):
        names = tuple(PLACES)
        begun = time.perf_counter()
        self.assertEqual(count_full_with(names, dict.fromkeys(names, 1) | {"l": 11}), 1)
        self.assertEqual(count_full_with(names, dict.fromkeys(names, 2) | {"a": 1, "l": 1}), 3628800)
        whole = 0
        for ties in itertools.combinations_with_replacement(range(12), 10):
            if max(ties) < 3:
                word = [names[at] for at in ties]
                # So many orders of one row of names as words.
                whole += count_full_with(names, {name: 1 + word.count(name) for name in names})
        self.assertEqual(whole, 3 ** 10)
        self.assertLess(time.perf_counter() - begun, 2)


class Numbers(Refusing):
    def test_all_numbers_of_two_to_five_names(self):
        for names in some_names():
            words = list(itertools.product(names, repeat=len(names) - 2))
            for number, word in enumerate(words):
                self.assertEqual(word_of(names, full_tree_at(names, number)), word)
            for number in (-1, -len(words), len(words), len(words) + 1, FAR, -FAR, True, False):
                self.assert_refused(NoNumber, full_tree_at, names, number)

    def test_twelve_names(self):
        names = tuple(PLACES)
        begun = time.perf_counter()
        for number in list(range(200)) + list(range(12 ** 10 - 200, 12 ** 10)) + [5 * 12 ** 9 + 7]:
            word = word_of(names, full_tree_at(names, number))
            at = 0
            for name in word:
                at = at * 12 + names.index(name)
            self.assertEqual(at, number)
        self.assertLess(time.perf_counter() - begun, 2)
        self.assert_refused(NoNumber, full_tree_at, names, 12 ** 10)
        self.assertEqual(full_tree_at(names, 12 ** 10 - 1), tuple((name, "l") for name in names[:-1]))


class Unchanged(unittest.TestCase):
    def test_what_is_handed_in(self):
        names, tree, ties = ("a", "b", "c"), (("a", "c"), ("b", "c")), {"c": 2, "a": 1, "b": 1}
        kept = copy.deepcopy((names, tree, ties))
        for _ in range(2):
            self.assertEqual(word_of(names, tree), ("c",))
            self.assertEqual(tree_of(names, ("c",)), tree)
            self.assertEqual(count_full_with(names, ties), 1)
            self.assertEqual(full_tree_at(names, 2), tree)
        self.assertEqual((names, tree, ties), kept)
        self.assertEqual(list(ties), ["c", "a", "b"])


if __name__ == "__main__":
    unittest.main()
