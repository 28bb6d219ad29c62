"""The refusals and the names of the interface."""

import unittest

from treerounds import errors, kept, whole
from treerounds.apart import apart, forests
from treerounds.cheap import cheapest
from treerounds.drawn import drawn, heaps
from treerounds.led import led_trees, tours
from treerounds.rounds import rounds
from treerounds.shares import shares
from treerounds.trees import counts, looks, orders, trees
from treerounds.webs import drawn_in, texts
from treerounds.words import full

OF_TEXT = ("NoTree", "NoTie", "NoNumber", "NoEnd", "NoAsk")
ALL = OF_TEXT + ("NoWeb", "NoName")

PLACES = {
    errors: ("TreeError",) + ALL,
    texts: ("read_web", "web_shown"),
    drawn_in: ("web_without", "web_drawn_in"),
    trees: ("is_tree", "way_in", "exchanges_of", "exchanged", "exchanges_between"),
    counts: ("count_trees", "weigh_trees", "count_with", "tree_at", "number_of"),
    orders: ("all_trees", "next_tree", "all_shown"),
    rounds: ("tree_round", "row_shown", "round_shown", "exchanges_along", "row_by",
             "row_from_with"),
    cheapest: ("cost_of", "cheapest", "cheap_paper", "cheap_shown"),
    drawn: ("drawn_by", "drawn_share"),
    heaps: ("popped", "pop_paper", "pops_shown"),
    shares: ("share_of", "share_of_both", "hardness"),
    led_trees: ("led_trees", "count_led"),
    tours: ("is_even", "count_tours", "tour_of", "tree_of_tour"),
    full: ("word_of", "tree_of", "count_full", "count_full_with", "full_tree_at"),
    apart: ("trees_apart", "apart_shown", "most_apart"),
    forests: ("few_forests", "forests_shown", "thickest"),
    kept: ("KeptWeb",),
    looks: ("ends_of", "longest_way", "way_sum", "cuts_and_rounds", "trees_by_ends",
            "ends_by_name"),
    whole: ("Desk",),
}


class Refusals(unittest.TestCase):
    def test_all_stand_under_tree_error_alone(self):
        self.assertEqual(errors.TreeError.__bases__, (ValueError,))
        for name in ALL:
            self.assertEqual(getattr(errors, name).__bases__, (errors.TreeError,), name)

    def test_none_is_of_another_ones_class(self):
        for name in ALL:
            for other in ALL:
                under = issubclass(getattr(errors, name), getattr(errors, other))
                self.assertEqual(under, name == other, (name, other))

    def test_made_of_a_text(self):
        for name in OF_TEXT + ("TreeError",):
            self.assertEqual(str(getattr(errors, name)("some words")), "some words")

    def test_no_web_keeps_its_row(self):
        self.assertEqual(errors.NoWeb(7).row, 7)
        self.assertEqual(errors.NoWeb(0).row, 0)

    def test_no_name_keeps_its_word(self):
        self.assertEqual(errors.NoName("ab").word, "ab")
        self.assertEqual(errors.NoName("").word, "")


class Interface(unittest.TestCase):
    def test_each_name_is_defined_in_its_own_file(self):
        for module, names in PLACES.items():
            for name in names:
                self.assertEqual(getattr(module, name).__module__, module.__name__, name)


if __name__ == "__main__":
    unittest.main()
