"""Webs read from texts and written ([2], [4])."""

import itertools
import unittest

from treerounds.errors import NoWeb, TreeError
from treerounds.webs.texts import read_web, web_shown

LONG = tuple("abcdefg" + last for last in "abcdefghijkl")

GOOD = (
    ("a", (("a",), ())),
    ("abcdefgh", (("abcdefgh",), ())),
    ("b a", (("a", "b"), ())),
    ("a b\na b", (("a", "b"), (("a", "b", 1),))),
    ("a b\nb a", (("a", "b"), (("a", "b", 1),))),
    ("a b\na b 1", (("a", "b"), (("a", "b", 1),))),
    ("b a\nb a 999", (("a", "b"), (("a", "b", 999),))),
    ("a b\na b 10", (("a", "b"), (("a", "b", 10),))),
    ("a b\na b 99", (("a", "b"), (("a", "b", 99),))),
    ("a b\na b 100", (("a", "b"), (("a", "b", 100),))),
    # A web that does not hang together.
    ("d c b a\nd c 3\nb a 2", (("a", "b", "c", "d"), (("a", "b", 2), ("c", "d", 3)))),
    # Names that begin one another, in order of letters and not of length.
    ("b abc a ab\nb ab 4\nab abc 3\na abc 2\nb a 5\nab a 6",
     (("a", "ab", "abc", "b"),
      (("a", "ab", 6), ("a", "abc", 2), ("a", "b", 5), ("ab", "abc", 3), ("ab", "b", 4)))),
    # The same two letters, parted in another way, are another tie.
    ("a ab b bb\na bb\nab b", (("a", "ab", "b", "bb"), (("a", "bb", 1), ("ab", "b", 1)))),
)

WRONG_NAMES = ("", " ", "  ", " a", "a ", "a  b", "abcdefghi", "a abcdefghi", "a a", "a b a",
               "A", "a B", "a1", "1", "a,b", "a-b", "a.", "a\tb", "a\r", "`", "{", "a b;c")

# Behind the names a, b, c and bb.
WRONG_TIES = ("", " ", "a", "abcdefghi", "a b 1 1", "a b c 1", "a  b", " a b", "a b ", "a b  1",
              "a b 1 ", " a 1", "a  1", "a a", "a a 1", "a d", "d a 4", "d e", "bb ab",
              "a abcdefghi", "a B", "a b 0", "a b 00", "a b 000", "a b 1000", "a b 9999",
              "a b 007", "a b 01", "a b +5", "a b -5", "a b 1.0", "a b 1_0", "a b x", "a b c",
              "a b 5a", "a b a5", "a b 1\r", "a\tb", "a b\t1", "a b,1", "a b /", "a b :",
              "a;b", "1 a b", "a 1 b")


def webs_of_four():
    """All webs of four names, each with weights of its own."""
    names = ("a", "ab", "b", "c")
    pairs = list(itertools.combinations(names, 2))
    for many in range(len(pairs) + 1):
        for some in itertools.combinations(pairs, many):
            yield names, tuple((one, other, 1 + 37 * at) for at, (one, other) in enumerate(some))


def great_web():
    """A web of twelve long names and twenty-four ties."""
    pairs = list(itertools.combinations(LONG, 2))[::2][:24]
    return LONG, tuple((one, other, 999) for one, other in pairs)


class Texts(unittest.TestCase):
    def assert_wrong(self, text, row):
        with self.assertRaises(NoWeb, msg=repr(text)) as caught:
            read_web(text)
        self.assertIs(type(caught.exception), NoWeb)
        self.assertIsInstance(caught.exception, TreeError)
        self.assertIsInstance(caught.exception, ValueError)
        self.assertEqual(caught.exception.row, row, repr(text))
        self.assertIs(type(caught.exception.row), int)


class Read(Texts):
    def test_good_texts(self):
        for text, web in GOOD:
            self.assertEqual(read_web(text), web, repr(text))

    def test_kinds(self):
        web = read_web("b a\nb a 3")
        names, ties = web
        self.assertIs(type(web), tuple)
        self.assertIs(type(names), tuple)
        self.assertIs(type(ties), tuple)
        self.assertIs(type(ties[0]), tuple)
        self.assertEqual([type(word) for word in names + ties[0]], [str, str, str, str, int])

    def test_a_weight_that_lacks_is_told_as_one(self):
        self.assertEqual(read_web("a b c\nb c\nc a 2")[1], (("a", "c", 2), ("b", "c", 1)))

    def test_all_weights(self):
        for weight in range(1, 1000):
            self.assertEqual(read_web(f"a b\nb a {weight}"), (("a", "b"), (("a", "b", weight),)))

    def test_any_order_tells_the_same_web(self):
        rows = ["b a 2", "a c", "d b 9"]
        web = read_web("a b c d\na b 2\na c 1\nb d 9")
        for names in itertools.permutations("abcd"):
            for some in itertools.permutations(rows):
                self.assertEqual(read_web("\n".join((" ".join(names),) + some)), web)

    def test_the_same_again_is_answered_the_same(self):
        text = "c b a\nc a 3\na b"
        first = read_web(text)
        read_web("a b\na b 7")
        self.assertEqual(read_web(text), first)
        self.assertEqual(text, "c b a\nc a 3\na b")


class Refused(Texts):
    def test_names(self):
        for names in WRONG_NAMES:
            self.assert_wrong(names, 0)
            self.assert_wrong(names + "\na b 1", 0)
            self.assert_wrong(names + "\n\na a 0", 0)

    def test_row_of_names_that_begins_the_text_is_empty(self):
        self.assert_wrong("\na b\na b", 0)

    def test_ties(self):
        for row in WRONG_TIES:
            self.assert_wrong("a b c bb\n" + row, 1)
            self.assert_wrong("c bb b a\nb c 2\n" + row, 2)
            self.assert_wrong("a b c bb\nb c 2\n" + row + "\na c 3", 2)

    def test_the_first_of_several_wrong_rows_is_kept(self):
        for row, other in itertools.product(WRONG_TIES, repeat=2):
            self.assert_wrong("a b c bb\nb c\n" + row + "\na c\n" + other, 2)

    def test_a_tie_twice(self):
        self.assert_wrong("a b c\na b\na c\na b", 3)
        self.assert_wrong("a b c\na b\na c\nb a", 3)
        self.assert_wrong("a b c\na b 3\nb a 4\nb a 3", 2)
        self.assert_wrong("a b c\nc b\na b 0\nb c", 2)

    def test_a_line_end_behind_the_last_row(self):
        self.assert_wrong("a\n", 1)
        self.assert_wrong("a b\na b 1\n", 2)
        self.assert_wrong("a b\na b 1\n\n", 2)

    def test_no_other_sign_ends_a_row(self):
        self.assert_wrong("a b\ra b", 0)
        self.assert_wrong("a b\x0ca b", 0)
        self.assert_wrong("a b\na b\r\n", 1)


class Limits(Texts):
    def test_twelve_names_and_twenty_four_ties(self):
        web = great_web()
        text = web_shown(web)
        self.assertEqual((len(web[0]), len(web[1])), (12, 24))
        self.assertLessEqual(len(text), 900)
        self.assertEqual(read_web(text), web)
        self.assert_wrong(text + "\n" + "a b", 25)

    def test_more_names_and_ties_are_refused_where_a_row_is_wrong(self):
        names = "a b c d e f g h i j k l m n"
        pairs = [f"{one} {other}" for one, other in itertools.combinations(names.split(), 2)]
        self.assert_wrong(names + " a", 0)
        self.assert_wrong(names + "\na n 0", 1)
        self.assert_wrong("\n".join([names] + pairs[:27] + ["a b"]), 28)

    def test_more_names_and_ties_are_no_fault_of_themselves(self):
        names = "a b c d e f g h i j k l m"
        pairs = [f"{one} {other}" for one, other in itertools.combinations(names.split(), 2)]
        web = read_web("\n".join([names] + pairs[:25]))
        self.assertEqual((len(web[0]), len(web[1])), (13, 25))

    def test_a_text_of_nine_hundred_signs(self):
        text = "a b\na b " + "7" * 892
        self.assertEqual(len(text), 900)
        self.assert_wrong(text, 1)
        self.assert_wrong(" " * 900, 0)
        self.assert_wrong("\n" * 900, 0)
        self.assert_wrong("a" + "\n" * 899, 1)


class Shown(unittest.TestCase):
    def test_rows(self):
        self.assertEqual(web_shown((("a",), ())), "a")
        self.assertEqual(web_shown((("a", "bc"), ())), "a bc")
        web = (("a", "ab", "b"), (("a", "ab", 1), ("a", "b", 999), ("ab", "b", 20)))
        self.assertEqual(web_shown(web), "a ab b\na ab 1\na b 999\nab b 20")

    def test_weights_above_nine_hundred_ninety_nine(self):
        self.assertEqual(web_shown((("a", "b"), (("a", "b", 1998),))), "a b\na b 1998")

    def test_what_was_read_is_written_in_order(self):
        self.assertEqual(web_shown(read_web("b abc a ab\nb ab 4\nab abc\na abc 20")),
                         "a ab abc b\na abc 20\nab abc 1\nab b 4")

    def test_what_was_written_is_read_back(self):
        for web in webs_of_four():
            self.assertEqual(read_web(web_shown(web)), web)
        for _, web in GOOD:
            self.assertEqual(read_web(web_shown(web)), web)


if __name__ == "__main__":
    unittest.main()
