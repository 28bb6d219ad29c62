"""What the tests have in common: webs, trees found by a plain going through, refusals."""

import itertools
import random
import unittest

from treerounds import errors

PLACES = "abcdefghijkl"

KINDS = (errors.NoTree, errors.NoTie, errors.NoNumber, errors.NoEnd, errors.NoAsk, errors.NoWeb,
         errors.NoName)


def full_web(many, weights=None):
    """All ties of so many names; weights by turns, or all 1."""
    return web_of_pairs(many, list(itertools.combinations(PLACES[:many], 2)), weights)


def ring_web(many, weights=None):
    """A ring of so many names, three at least."""
    return web_of_pairs(many, [(PLACES[at], PLACES[(at + 1) % many]) for at in range(many)], weights)


def line_web(many, weights=None):
    """A tree alone: so many names in a line."""
    return web_of_pairs(many, list(zip(PLACES, PLACES[1:many])), weights)


def web_of_pairs(many, pairs, weights=None):
    """The web of so many names and of pairs of them; weights by turns, or all 1."""
    rows = sorted(tuple(sorted(pair)) for pair in pairs)
    turns = itertools.cycle(weights or (1,))
    return tuple(PLACES[:many]), tuple((one, other, next(turns)) for one, other in rows)


def all_webs(many, weights=None):
    """All webs of so many names."""
    pairs = list(itertools.combinations(PLACES[:many], 2))
    for size in range(len(pairs) + 1):
        for some in itertools.combinations(pairs, size):
            yield web_of_pairs(many, some, weights)


def small_webs(weights=None):
    """All webs of up to four names, and some of five and six."""
    for many in range(1, 5):
        yield from all_webs(many, weights)
    yield full_web(5, weights)
    yield ring_web(6, weights)
    yield line_web(6, weights)
    yield WHEEL if weights is None else (WHEEL[0], tuple(
        (one, other, weights[at % len(weights)]) for at, (one, other, _) in enumerate(WHEEL[1])))
    yield web_of_pairs(6, [("a", "b"), ("b", "c"), ("a", "c"), ("d", "e"), ("e", "f"), ("d", "f")],
                       weights)
    yield web_of_pairs(5, [("a", "b"), ("b", "c"), ("a", "c"), ("c", "d"), ("d", "e"), ("c", "e")],
                       weights)


def great_web(weights=None):
    """Twelve names and twenty-four ties: each name tied with the two next ones around."""
    pairs = [(PLACES[at], PLACES[(at + step) % 12]) for at in range(12) for step in (1, 2)]
    return web_of_pairs(12, pairs, weights)


def weight_in(web, tree):
    """The product of a tree's weights."""
    product = 1
    for tie in tree:
        product *= web[1][tie][2]
    return product


def spans(web, row):
    """Whether ties lead from the first name to each, by walking."""
    reached = [web[0][0]]
    for name in reached:
        for tie in row:
            one, other, _ = web[1][tie]
            if name in (one, other):
                there = other if name == one else one
                if there not in reached:
                    reached.append(there)
    return len(reached) == len(web[0])


def plain_trees(web):
    """All trees of a web, by going through all rows of as many ties."""
    rows = itertools.combinations(range(len(web[1])), len(web[0]) - 1)
    return [row for row in rows if spans(web, row)]


def plain_exchanges(trees, tree):
    """All exchanges of a tree, by all trees."""
    found = []
    for other in trees:
        out, put = set(tree) - set(other), set(other) - set(tree)
        if len(out) == 1:
            found.append((out.pop(), put.pop()))
    return sorted(found)


def apart(one, other):
    """How many ties one tree has that the other has not."""
    return len(set(one) - set(other))


def arrow_web(many, pairs):
    """The arrow web of so many names and of pairs (from, to), perhaps alike."""
    return tuple(PLACES[:many]), tuple(sorted(tuple(pair) for pair in pairs))


def small_arrow_webs():
    """All arrow webs of up to three names, arrows of two also alike, and some of four and five."""
    for many in range(1, 4):
        pairs = list(itertools.permutations(PLACES[:many], 2))
        for size in range(len(pairs) + 1):
            for some in itertools.combinations(pairs, size):
                yield arrow_web(many, some)
    for size in range(3, 7):
        for some in itertools.combinations_with_replacement(["ab", "ba"], size):
            yield arrow_web(2, some)
            yield arrow_web(4, some)
    chosen = random.Random(5)
    for many in (4, 5):
        pairs = list(itertools.permutations(PLACES[:many], 2))
        for _ in range(60):
            yield arrow_web(many, chosen.choices(pairs, k=chosen.randint(3, 9)))


def even_arrow_webs():
    """Even arrow webs, made of rounds that hang together: arrows alike, names without arrows."""
    for many in range(1, 5):
        yield arrow_web(many, [])
    for rounds in (["ab"], ["ab", "ab"], ["ab", "ab", "ab"], ["abc"], ["abc", "abc"],
                   ["abc", "cba"], ["ab", "bc", "ca"], ["ab", "bc", "cd"], ["abcd", "ac"],
                   ["abcd", "dcba"], ["bd", "bd"], ["bde", "eb"], ["abc", "cde", "eb"],
                   ["ab", "ac", "ad", "ae"], ["abcde", "ac", "bd"]):
        for many in (5, 6):
            yield arrow_web(many, [pair for names in rounds
                                   for pair in zip(names, names[1:] + names[:1])])


def great_arrow_web():
    """Twelve names and twenty-four arrows: each name leads to the two next ones around."""
    return arrow_web(12, [(PLACES[at], PLACES[(at + step) % 12])
                          for at in range(12) for step in (1, 2)])


def plain_led(web, root, names=None):
    """All led trees to a root of some names, or of all, by going through all rows of arrows."""
    names = web[0] if names is None else names
    arrows = web[1]
    found = []
    for row in itertools.combinations(range(len(arrows)), len(names) - 1):
        steps = {arrows[number][0]: arrows[number][1] for number in row}
        if len(steps) == len(row) and root not in steps and all(
                leads_to(steps, name, root) for name in names):
            found.append(row)
    return found


def leads_to(steps, name, root):
    """Whether steps from name to name lead a name to a root."""
    for _ in range(len(steps) + 1):
        if name == root:
            return True
        name = steps.get(name)
    return False


WHEEL = web_of_pairs(6, [("a", name) for name in "bcdef"]
                     + [("b", "c"), ("c", "d"), ("d", "e"), ("e", "f"), ("b", "f")])


class Refusing(unittest.TestCase):
    def assert_refused(self, kind, function, *arguments):
        """That a call is refused with just this class; tells the error."""
        with self.assertRaises(kind, msg=function.__name__) as caught:
            function(*arguments)
        self.assertIsInstance(caught.exception, errors.TreeError)
        self.assertIsInstance(caught.exception, ValueError)
        for other in KINDS:
            self.assertEqual(isinstance(caught.exception, other), other is kind)
        return caught.exception

    def assert_no_name(self, word, function, *arguments):
        """That a call is refused with NoName, which keeps a word."""
        self.assertEqual(self.assert_refused(errors.NoName, function, *arguments).word, word)
