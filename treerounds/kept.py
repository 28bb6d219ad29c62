"""Webs that are changed tie by tie, with their cheapest forests."""

from treerounds.cheap.cheapest import cheapest_forest
from treerounds.errors import NoName, NoTie
from treerounds.trees.counts import count_trees
from treerounds.webs.parts import check_names, in_order, web_of


class KeptWeb:
    """Some names, and the ties that are put in, led to other weights and taken out."""

    def __init__(self, names):
        self.names = tuple(names)
        self.weights = {}

    def put_tie(self, one, other, weight):
        """Put a new tie in, or NoName, NoTie; tells what goes out of the forest and comes in."""
        pair = self.pair_of(one, other)
        if pair in self.weights:
            raise NoTie("these names are tied")
        return self.changed_to(pair, weight)

    def lead_tie(self, one, other, weight):
        """Give a tie a weight, or NoName, NoTie; tells what goes out of the forest and comes in."""
        return self.changed_to(self.tied_pair_of(one, other), weight)

    def take_tie(self, one, other):
        """Take a tie out, or NoName, NoTie; tells what goes out of the forest and comes in."""
        return self.changed_to(self.tied_pair_of(one, other), None)

    def web_now(self):
        """The web as it stands."""
        return web_of(self.names, self.weights)

    def is_whole(self):
        """Whether all names hang together."""
        return len(self.forest_now()) == len(self.names) - 1

    def count_now(self):
        """How many trees there are."""
        return count_trees(self.web_now())

    def forest_now(self):
        """The cheapest forest: the ties' numbers as the web stands, rising."""
        return cheapest_forest(self.web_now())

    def pair_of(self, one, other):
        """Two unlike names in order, or NoName."""
        check_names((self.names, ()), (one, other))
        if one == other:
            raise NoName(other)
        return in_order(one, other)

    def tied_pair_of(self, one, other):
        """Two names in order that are tied, or NoName, NoTie."""
        pair = self.pair_of(one, other)
        if pair not in self.weights:
            raise NoTie("these names are not tied")
        return pair

    def changed_to(self, pair, weight):
        """Give a pair of names a tie of a weight, or none; tells what that does to the forest."""
        ahead = self.forest_pairs()
        if weight is None:
            del self.weights[pair]
        else:
            self.weights[pair] = weight
        behind = self.forest_pairs()
        return lost(ahead, behind), lost(behind, ahead)

    def forest_pairs(self):
        """The ties of the cheapest forest as pairs of names."""
        web = self.web_now()
        return [web[1][tie][:2] for tie in cheapest_forest(web)]


def lost(ahead, behind):
    """The pair of the first list that is not in the second, or None; there is one at most."""
    gone = [pair for pair in ahead if pair not in behind]
    return gone[0] if gone else None
