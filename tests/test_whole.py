"""The desk ([2], [3], [37]), and the whole ([1])."""

import itertools
import random
import time
import unittest

from helper import PLACES, Refusing, full_web, great_web, plain_trees, small_webs
from treerounds.apart.apart import apart_shown, most_apart
from treerounds.cheap.cheapest import cheapest
from treerounds.drawn.drawn import drawn_by
from treerounds.errors import NoAsk, NoName, NoNumber, NoTie, NoTree, NoWeb
from treerounds.led.led_trees import led_trees
from treerounds.rounds.rounds import round_shown, row_shown, tree_round
from treerounds.shares.shares import share_of
from treerounds.trees.counts import count_trees, number_of, tree_at, weigh_trees
from treerounds.trees.looks import trees_by_ends
from treerounds.trees.orders import all_shown, all_trees
from treerounds.trees.trees import way_in
from treerounds.webs.texts import web_shown
from treerounds.whole import Desk
from treerounds.words.full import count_full, full_tree_at

WORDS = ("show", "count", "weight", "tree", "number", "next", "round", "cheap", "share", "way",
         "apart")
NO_NAMES = ("", "A", "aB", "a1", "1", "abcdefghi", "a-b", ";", ".", "a;b")
NO_NUMBERS = ("", "00", "01", "007", "+1", "-1", "-0", "1.0", "1_0", "x", "a", "1a", "a1", "1;",
              "1234567890", "0000000000", "1" * 400, ":", "/", "0x1", "1,2")


def line_of(name, web):
    """The line that hands a web in."""
    return f"web {name} " + web_shown(web).replace("\n", ";")


def row_of(things):
    """A row of numbers or names."""
    return " ".join(map(str, things))


def rows_of(texts):
    """Tuples of numbers out of rows."""
    return [tuple(map(int, text.split())) for text in texts]


class Desks(Refusing):
    def setUp(self):
        self.desk = Desk()
        # a-b 0, a-c 1, b-c 2, c-d 3.
        self.desk.ask("web w d c b a;b a 2;c b;c a 3;d c")
        self.desk.ask("web one x")
        self.desk.ask("web two a b")

    def assert_told(self, line, rows):
        told = self.desk.ask(line)
        self.assertIs(type(told), list)
        self.assertTrue(all(type(row) is str for row in told), line)
        self.assertEqual(told, rows, line)

    def assert_not_asked(self, line):
        self.assert_refused(NoAsk, self.desk.ask, line)


class Lines(Desks):
    def test_web_and_show(self):
        self.assert_told("web w b a", [])
        self.assert_told("show w", ["a b"])
        self.assert_told("web w b a;b a 999", [])
        self.assert_told("show w", ["a b", "a b 999"])
        self.assert_told("web show a", [])
        self.assert_told("show show", ["a"])
        self.assert_told("web web abcdefgh b;b abcdefgh", [])
        self.assert_told("show web", ["abcdefgh b", "abcdefgh b 1"])
        self.assert_told("web abcdefgh z", [])
        self.assert_told("show abcdefgh", ["z"])

    def test_each_line(self):
        for line, rows in (("show w", ["a b c d", "a b 2", "a c 3", "b c 1", "c d 1"]),
                           ("count w", ["3"]), ("weight w", ["11"]), ("tree w 0", ["0 1 3"]),
                           ("tree w 2", ["1 2 3"]), ("number w 0 2 3", ["1"]),
                           ("next w 0 2 3", ["1 2 3"]), ("next w 1 2 3", []),
                           ("cheap w 0", []), ("cheap w 2", ["4: 0 2 3", "5: 1 2 3"]),
                           ("cheap w 9", ["4: 0 2 3", "5: 1 2 3", "6: 0 1 3"]),
                           ("share w 0", ["8/11"]), ("share w 3", ["1/1"]),
                           ("way w d a 0 2 3", ["3 2 0"]), ("way w a b 0 2 3", ["0"]),
                           ("way w c c 0 2 3", [""]), ("apart w 1", ["trees", "0 1 3"])):
            if line == "apart w 1":
                word, *rows = self.desk.ask(line)
                self.assertEqual(word, "trees")
                self.assertIn(rows_of(rows), [[(0, 1, 3)], [(0, 2, 3)], [(1, 2, 3)]])
            else:
                self.assert_told(line, rows)

    def test_one_place(self):
        for line, rows in (("show one", ["x"]), ("count one", ["1"]), ("weight one", ["1"]),
                           ("tree one 0", [""]), ("number one", ["0"]), ("next one", []),
                           ("round one", ["row", ""]), ("cheap one 0", []),
                           ("cheap one 1", ["0: "]), ("cheap one 5", ["0: "]),
                           ("way one x x", [""]), ("apart one 1", ["trees", ""]),
                           ("apart one 4", ["trees", "", "", "", ""])):
            self.assert_told(line, rows)

    def test_places_that_do_not_hang_together(self):
        for line, rows in (("show two", ["a b"]), ("count two", ["0"]), ("weight two", ["0"]),
                           ("round two", ["row"]), ("cheap two 3", []),
                           ("apart two 1", ["parting", "a", "b"])):
            self.assert_told(line, rows)
        self.assert_refused(NoNumber, self.desk.ask, "tree two 0")
        for line in ("number two", "number two 0", "next two", "way two a b", "way two a a 0"):
            self.assert_refused(NoTree, self.desk.ask, line)

    def test_two_places(self):
        self.desk.ask("web two b a;a b 5")
        for line, rows in (("count two", ["1"]), ("weight two", ["5"]), ("tree two 0", ["0"]),
                           ("number two 0", ["0"]), ("next two 0", []),
                           ("round two", ["row", "0"]), ("cheap two 1", ["5: 0"]),
                           ("share two 0", ["1/1"]), ("way two b a 0", ["0"]),
                           ("way two b b 0", [""]), ("apart two 1", ["trees", "0"]),
                           ("apart two 2", ["parting", "a", "b"])):
            self.assert_told(line, rows)

    def test_a_tie_whose_share_is_none(self):
        # Ties of no tree there are none in a web with a tree, and so no share is 0.
        for tie in range(4):
            above, below = map(int, self.desk.ask(f"share w {tie}")[0].split("/"))
            self.assertEqual((above, below), share_of(self.web_w(), tie))

    def web_w(self):
        return ("a", "b", "c", "d"), (("a", "b", 2), ("a", "c", 3), ("b", "c", 1), ("c", "d", 1))

    def test_small_webs(self):
        for web in itertools.chain(small_webs((4, 1, 2)), [full_web(6, (9, 9, 1))]):
            trees = plain_trees(web)
            self.assert_told(line_of("web", web), [])
            self.assert_told("show web", web_shown(web).split("\n"))
            self.assert_told("count web", [str(len(trees))])
            self.assert_told("weight web", [str(weigh_trees(web))])
            self.assert_told("cheap web 20", [f"{cost}: {row_of(tree)}"
                                              for cost, tree in cheapest(web, 20)])
            for number, tree in list(enumerate(trees))[:30]:
                ties = " " + row_of(tree) if tree else ""
                self.assert_told(f"tree web {number}", [row_of(tree)])
                self.assert_told(f"number web{ties}", [str(number)])
                self.assert_told(f"next web{ties}", list(map(row_of, trees[number + 1:number + 2])))
                for one, other in itertools.product(web[0], repeat=2):
                    self.assert_told(f"way web {one} {other}{ties}",
                                     [row_of(way_in(web, tree, one, other))])
            self.assert_refused(NoNumber, self.desk.ask, f"tree web {len(trees)}")
            if trees:
                for tie in range(len(web[1])):
                    above, below = share_of(web, tie)
                    self.assert_told(f"share web {tie}", [f"{above}/{below}"])

    def test_rounds(self):
        for web in small_webs((4, 1, 2)):
            self.desk.ask(line_of("w", web))
            word, *rows = self.desk.ask("round w")
            trees = rows_of(rows)
            self.assertEqual(word, "round" if len(trees) > 2 else "row")
            self.assertIs(row_shown(web, trees), True)
            self.assertIs(round_shown(web, trees), word == "round")
            self.assertEqual(trees[:1], plain_trees(web)[:1])

    def test_apart(self):
        for web in itertools.chain(small_webs((4, 1, 2)), [full_web(6), full_web(7), great_web()]):
            self.desk.ask(line_of("w", web))
            for many in range(1, 5):
                word, *rows = self.desk.ask(f"apart w {many}")
                told = rows_of(rows) if word == "trees" else [tuple(row.split()) for row in rows]
                self.assertIs(apart_shown(web, many, (word, tuple(told))), True)

    def test_twelve_places_and_fifty_webs(self):
        chosen = random.Random(1)
        begun = time.perf_counter()
        for at in range(50):
            pairs = chosen.sample(list(itertools.combinations(PLACES, 2)), 24)
            web = (tuple(PLACES), tuple(pair + (chosen.randint(1, 999),) for pair in sorted(pairs)))
            name = "w" + PLACES[at // 10] + PLACES[at % 10]
            self.assert_told(line_of(name, web), [])
            self.assertEqual(self.desk.ask(f"show {name}"), web_shown(web).split("\n"))
        for at in range(50):
            name = "w" + PLACES[at // 10] + PLACES[at % 10]
            many = int(self.desk.ask(f"count {name}")[0])
            if not many:
                continue
            tree = self.desk.ask(f"tree {name} {many - 1}")[0]
            self.assert_told(f"number {name} {tree}", [str(many - 1)])
            self.assert_told(f"next {name} {tree}", [])
            self.assertEqual(len(self.desk.ask(f"cheap {name} 5")), 5)
            self.desk.ask(f"apart {name} 2")
            self.desk.ask(f"way {name} a l {tree}")
        self.assertLess(time.perf_counter() - begun, 4)


class NotAsked(Desks):
    def test_other_lines(self):
        for line in ("", " ", "  ", "w", "ask", "Show w", "SHOW w", "shows w", "sho w", "desk w",
                     "TreeError w", "show;w", "show\tw", "?", "webs a a", "Web a a", "is whole w"):
            self.assert_not_asked(line)

    def test_words_that_lack(self):
        for word in WORDS + ("web",):
            self.assert_not_asked(word)
            self.assert_not_asked(word + " ")
        for line in ("tree w", "cheap w", "share w", "way w", "way w a", "apart w", "way one x",
                     "tree one", "web w", "web one"):
            self.assert_not_asked(line)

    def test_words_too_many(self):
        for line in ("show w 1", "show w w", "count w 0", "weight w 1", "tree w 0 1", "round w 0",
                     "cheap w 1 1", "share w 1 1", "apart w 1 1"):
            self.assert_not_asked(line)

    def test_blanks(self):
        lines = ("show w", "count w", "weight w", "tree w 0", "number w 0 2 3", "next w 0 2 3",
                 "round w", "cheap w 2", "share w 0", "way w a d 0 2 3", "apart w 1", "number one",
                 "next one", "way one x x")
        for line in lines:
            self.desk.ask(line)
            self.assert_not_asked(line + " ")
            self.assert_not_asked(" " + line)
            self.assert_not_asked(line + "  ")
            words = line.split(" ")
            for at in range(1, len(words)):
                self.assert_not_asked(" ".join(words[:at]) + "  " + " ".join(words[at:]))
        self.assert_not_asked(" web v a")
        self.assert_not_asked("web  v a")

    def test_line_ends(self):
        for line in ("show w", "web v a b", "web v a b;a b", "count one"):
            for wrong in (line + "\n", "\n" + line, line.replace(" ", "\n", 1), line[:-1] + "\n" + line[-1]):
                self.assert_not_asked(wrong)
        self.assert_not_asked("web v a b\na b 1")
        self.assert_not_asked("web v A\n")
        self.assert_not_asked("\n")
        self.assert_not_asked("show v")

    def test_names_that_are_none(self):
        for name in NO_NAMES:
            self.assert_not_asked(f"web {name} a b")
            self.assert_not_asked(f"web {name} A")
            for word in WORDS:
                self.assert_not_asked(f"{word} {name}")
            self.assert_not_asked(f"tree {name} 0")
            self.assert_not_asked(f"way w {name} a 0 2 3")
            self.assert_not_asked(f"way w a {name} 0 2 3")
            self.assert_not_asked(f"way w {name} z 9")
            self.assert_not_asked(f"way one x {name}")

    def test_webs_that_are_not_there(self):
        for line in ("show v", "count v", "weight ww", "tree v 0", "number v 0", "next v", "round v",
                     "cheap v 1", "share v 0", "way v a b 0", "apart v 1", "tree v x", "show show"):
            self.assert_not_asked(line)

    def test_numbers_that_are_none(self):
        for number in NO_NUMBERS:
            for line in (f"tree w {number}", f"number w {number}", f"number w 0 2 {number}",
                         f"number w {number} 2 3", f"next w 0 2 3 {number}", f"cheap w {number}",
                         f"share w {number}", f"way w a b {number}", f"way w a z 0 {number} 3",
                         f"apart w {number}", f"apart one {number}", f"number one {number}",
                         f"way one x x {number}"):
                self.assert_not_asked(line)

    def test_another_number_of_trees_apart(self):
        for number in ("0", "5", "10", "14", "123456789"):
            for name in ("w", "one", "two"):
                self.assert_not_asked(f"apart {name} {number}")


class PartsRefuse(Desks):
    def assert_no_web(self, line, row):
        self.assertEqual(self.assert_refused(NoWeb, self.desk.ask, line).row, row)

    def test_no_web_keeps_the_row(self):
        for line, row in (("web v ", 0), ("web v  a", 0), ("web v a ", 0), ("web v A", 0),
                          ("web v a a", 0), ("web v a  b", 0), ("web v ;", 0), ("web v ;a b", 0),
                          ("web v a b;", 1), ("web v a b;a b;", 2), ("web v a b;;a b", 1),
                          ("web v a b;a b;b a", 2), ("web v a b ;a b", 0), ("web v a b; a b", 1),
                          ("web v a b;a b 0", 1), ("web v a b;a b 1000", 1), ("web v a b;a c", 1),
                          ("web v a b;a b 01;x", 1), ("web v a,b", 0), ("web v a b:a b", 0)):
            self.assert_no_web(line, row)
        # Nothing came to be kept.
        self.assert_not_asked("show v")

    def test_the_parts_own_classes(self):
        for kind, lines in ((NoNumber, ("tree w 3", "tree w 999999999", "tree one 1")),
                            (NoTree, ("number w", "number w 0", "number w 0 1 2", "number w 0 2 9",
                                      "number w 2 0 3", "number w 0 2 999999999", "next w",
                                      "next w 0 0 3", "next w 0 1 2 3", "number one 0",
                                      "next one 0", "way w a b", "way w a b 0 1 2", "way w a b 1",
                                      # NoTree comes ahead of NoName.
                                      "way w z y 0 1 2", "way one a b 0")),
                            (NoTie, ("share w 4", "share w 999999999", "share one 0"))):
            for line in lines:
                self.assert_refused(kind, self.desk.ask, line)

    def test_no_name_keeps_the_word(self):
        for line, word in (("way w z a 0 2 3", "z"), ("way w a y 0 2 3", "y"),
                           ("way w z y 0 2 3", "z"), ("way one a x", "a"), ("way one x a", "a"),
                           ("way w z z 0 2 3", "z"), ("way w abcdefgh a 0 2 3", "abcdefgh")):
            self.assertEqual(self.assert_refused(NoName, self.desk.ask, line).word, word)

    def test_webs_stand_behind_a_refused_line(self):
        asked = ("show w", "count w", "show one", "show two")
        stood = [self.desk.ask(line) for line in asked]
        for line in ("web w ", "web w a b;", "web w A", "web w", "web w a b\n", "show w\n",
                     "tree w 9", "way w z z 0 2 3", "webs w a"):
            with self.assertRaises((NoAsk, NoWeb, NoName, NoNumber)):
                self.desk.ask(line)
            self.assertEqual([self.desk.ask(line) for line in asked], stood)


class TwoDesks(Desks):
    def test_desks_do_not_touch_one_another(self):
        other = Desk()
        self.assert_refused(NoAsk, other.ask, "show w")
        other.ask("web w y")
        self.assertEqual(other.ask("show w"), ["y"])
        self.assert_told("count w", ["3"])

    def test_what_was_told_may_be_changed(self):
        for line in ("show w", "round w", "cheap w 3", "tree w 1", "apart w 2", "count w",
                     "next w 0 2 3"):
            told = self.desk.ask(line)
            again = list(told)
            told.append("other")
            told[0] = "other"
            self.assert_told(line, again)

    def test_a_web_takes_the_place_of_another(self):
        self.assert_told("web w q", [])
        self.assert_told("show w", ["q"])
        self.assert_told("show one", ["x"])
        self.assertIn("ask", vars(Desk))


class Whole(unittest.TestCase):
    def test_all_trees_are_told_in_each_way(self):
        for web in small_webs((4, 1, 2)):
            trees = plain_trees(web)
            self.assertEqual(all_trees(web), trees)
            self.assertEqual([tree_at(web, number) for number in range(len(trees))], trees)
            self.assertEqual([drawn_by(web, number) for number in range(len(trees))], trees)
            self.assertEqual([number_of(web, tree) for tree in trees], list(range(len(trees))))
            self.assertEqual(sorted(tree_round(web)[1]), trees)
            self.assertEqual(sorted(tree for _, tree in cheapest(web, 230)), trees)
            self.assertIs(all_shown(web, trees), True)
            self.assertEqual((count_trees(web), sum(trees_by_ends(web))), (len(trees),) * 2)
            self.assertEqual(most_apart(web) > 0, bool(trees))
            led = [(one, other) for one, other, _ in web[1]] + [tie[1::-1] for tie in web[1]]
            # Each tree is led to each name in one way.
            self.assertEqual(len(led_trees((web[0], tuple(sorted(led))), web[0][-1])), len(trees))

    def test_all_ties_of_five_are_full_trees(self):
        web = full_web(5)
        told = sorted(tuple(web[1][tie][:2] for tie in tree) for tree in all_trees(web))
        self.assertEqual(told, sorted(full_tree_at(web[0], number)
                                      for number in range(count_full(5))))


if __name__ == "__main__":
    unittest.main()
