"""Shares of ties, and how hard it is to come from one name to another."""

from treerounds.shares.fraction import in_least_terms
from treerounds.trees.counts import weigh_trees
from treerounds.trees.joins import apart_heads, heads_of, joined
from treerounds.trees.tables import weight_of_rest
from treerounds.webs.parts import check_names, check_tie


def share_of(web, tie):
    """What part of the weights of all trees those have that have a tie, or NoTie."""
    check_tie(web, tie)
    return in_least_terms(weight_with(web, (tie,)), weigh_trees(web))


def share_of_both(web, one, other):
    """What part of the weights of all trees those have that have two unlike ties, or NoTie."""
    check_tie(web, one)
    check_tie(web, other)
    return in_least_terms(weight_with(web, (one, other)), weigh_trees(web))


def hardness(web, one, other):
    """All trees' weights with two unlike names drawn into one, over those of the web; or NoName."""
    check_names(web, (one, other))
    names, ties = web
    heads = joined(apart_heads(names), one, other)
    return in_least_terms(weight_of_rest(heads, ties), weigh_trees(web))


def weight_with(web, some):
    """The sum of the weights of all trees that have some ties, which make no way round."""
    weight = weight_of_rest(heads_of(web, some), web[1])
    for tie in some:
        weight *= web[1][tie][2]
    return weight
