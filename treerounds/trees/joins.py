"""Which names hang together by some ties, kept as a dict from each name to the head of its part.

Of arrows, or of pairs of names, it is told as of ties, whichever way they lead.
"""


def apart_heads(names):
    """The heads where each name is a part of its own."""
    return {name: name for name in names}


def joined(heads, one, other):
    """The heads when the parts of two names have become one."""
    kept, gone = heads[one], heads[other]
    return {name: kept if head == gone else head for name, head in heads.items()}


def heads_of(web, some):
    """The heads by some ties of a web, told by their numbers."""
    names, ties = web
    heads = apart_heads(names)
    for tie in some:
        heads = joined(heads, ties[tie][0], ties[tie][1])
    return heads


def without_rounds(web, order):
    """Of some ties in turn, as a list, each that makes no way round with those ahead of it."""
    names, ties = web
    heads = apart_heads(names)
    kept = []
    for tie in order:
        one, other = ties[tie][0], ties[tie][1]
        if heads[one] != heads[other]:
            heads = joined(heads, one, other)
            kept.append(tie)
    return kept
