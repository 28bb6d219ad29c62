"""The desk: webs kept under names, and lines that ask about them."""

from treerounds.apart.apart import trees_apart
from treerounds.cheap.cheapest import cheapest
from treerounds.errors import NoAsk
from treerounds.rounds.rounds import tree_round
from treerounds.shares.shares import share_of
from treerounds.trees.counts import count_trees, number_of, tree_at, weigh_trees
from treerounds.trees.orders import next_tree
from treerounds.trees.trees import way_in
from treerounds.webs.texts import FIGURES, is_name, read_web, web_shown


class Desk:
    """Keeps webs under names, and answers lines."""

    def __init__(self):
        self.webs = {}

    def ask(self, line):
        """The rows that answer a line, or NoAsk, or what the parts refuse."""
        if "\n" in line:
            raise NoAsk("a line has no line end")
        word, _, rest = line.partition(" ")
        if word == "web":
            self.put_web(rest)
            return []
        words = rest.split(" ")
        if word not in ANSWERS or words[0] not in self.webs:
            raise NoAsk("this is no line that the desk knows, or there is no such web")
        answer = ANSWERS[word]
        return answer(self.webs[words[0]], words[1:])

    def put_web(self, rest):
        """Keep the web of a name, a blank and a text, or NoAsk, NoWeb."""
        name, blank, text = rest.partition(" ")
        if not is_name(name) or not blank:
            raise NoAsk("a web needs a name, a blank and a text")
        self.webs[name] = read_web(text.replace(";", "\n"))


def answer_show(web, words):
    """The rows of a web."""
    check_many(words, 0)
    return web_shown(web).split("\n")


def answer_count(web, words):
    """How many trees there are."""
    check_many(words, 0)
    return [str(count_trees(web))]


def answer_weight(web, words):
    """The sum of the weights of all trees."""
    check_many(words, 0)
    return [str(weigh_trees(web))]


def answer_tree(web, words):
    """The tree with a number."""
    check_many(words, 1)
    return [row_of(tree_at(web, number_in(words[0])))]


def answer_number(web, words):
    """The number of a tree."""
    return [str(number_of(web, numbers_in(words)))]


def answer_next(web, words):
    """The next tree behind a tree, or no row behind the last."""
    tree = next_tree(web, numbers_in(words))
    return [] if tree is None else [row_of(tree)]


def answer_round(web, words):
    """All trees as a row that goes by exchanges, and whether it is a round."""
    check_many(words, 0)
    word, trees = tree_round(web)
    return [word] + [row_of(tree) for tree in trees]


def answer_cheap(web, words):
    """The first trees in order of cost, with their costs."""
    check_many(words, 1)
    return [f"{cost}: {row_of(tree)}" for cost, tree in cheapest(web, number_in(words[0]))]


def answer_share(web, words):
    """The share of a tie."""
    check_many(words, 1)
    above, below = share_of(web, number_in(words[0]))
    return [f"{above}/{below}"]


def answer_way(web, words):
    """The way in a tree from one place to another."""
    places = words[:2]
    check_many(places, 2)
    if not all(is_name(place) for place in places):
        raise NoAsk("a place is no name")
    return [row_of(way_in(web, numbers_in(words[2:]), places[0], places[1]))]


def answer_apart(web, words):
    """So many trees apart, or a parting that shows that there are none."""
    check_many(words, 1)
    if words[0] not in ("1", "2", "3", "4"):
        raise NoAsk("only 1 to 4 trees are told apart")
    word, rows = trees_apart(web, int(words[0]))
    return [word] + [row_of(row) for row in rows]


def check_many(words, many):
    """Refuse with NoAsk where there are not so many words."""
    if len(words) != many:
        raise NoAsk("there are too few words, or too many")


def number_in(word):
    """The number that a word tells in figures without a nought ahead, or NoAsk."""
    if not 1 <= len(word) <= 9 or not all(sign in FIGURES for sign in word):
        raise NoAsk("a number is none, or has more than nine figures")
    if word[0] == "0" and word != "0":
        raise NoAsk("a number has a nought ahead")
    return int(word)


def numbers_in(words):
    """The numbers that words tell, as a tuple, or NoAsk."""
    return tuple([number_in(word) for word in words])


def row_of(things):
    """Numbers or names in a row, parted by blanks."""
    return " ".join([str(thing) for thing in things])


ANSWERS = {"show": answer_show, "count": answer_count, "weight": answer_weight,
           "tree": answer_tree, "number": answer_number, "next": answer_next,
           "round": answer_round, "cheap": answer_cheap, "share": answer_share,
           "way": answer_way, "apart": answer_apart}
