"""Webs as texts: a row of names, then a row for each tie."""

from treerounds.errors import NoWeb
from treerounds.webs.parts import in_order, web_of

LETTERS = "abcdefghijklmnopqrstuvwxyz"
FIGURES = "0123456789"


def read_web(text):
    """The web that a text tells; NoWeb keeps the first row that is wrong."""
    rows = text.split("\n")
    names = rows[0].split(" ")
    if not are_names(names):
        raise NoWeb(0)
    weights = {}
    for at, row in enumerate(rows[1:], start=1):
        tie = tie_in(names, row)
        if tie is None or tie[:2] in weights:
            raise NoWeb(at)
        weights[tie[:2]] = tie[2]
    return web_of(names, weights)


def web_shown(web):
    """The text of a web."""
    names, ties = web
    rows = [" ".join(names)]
    for one, other, weight in ties:
        rows.append(f"{one} {other} {weight}")
    return "\n".join(rows)


def is_name(word):
    """Whether a word is one to eight small letters."""
    return 1 <= len(word) <= 8 and all(sign in LETTERS for sign in word)


def are_names(words):
    """Whether all words are names, each once."""
    return all(is_name(word) for word in words) and len(set(words)) == len(words)


def is_weight(word):
    """Whether a word is a number from 1 to 999 in figures, without a nought ahead."""
    return 1 <= len(word) <= 3 and word[0] != "0" and all(sign in FIGURES for sign in word)


def tie_in(names, row):
    """The tie that a row tells, or None where the row is wrong."""
    words = row.split(" ")
    if len(words) == 2:
        words.append("1")
    if len(words) != 3 or not is_weight(words[2]):
        return None
    one, other = in_order(words[0], words[1])
    if one == other or one not in names or other not in names:
        return None
    return one, other, int(words[2])
