"""Sums of the weights of all trees, by tables of ties (determinants)."""

from treerounds.trees.joins import apart_heads, joined


def determinant(table):
    """The determinant of a table of whole numbers, a list of lists; 1 of the empty one."""
    rows = [list(row) for row in table]
    sign, last = 1, 1
    for at in range(len(table)):
        below = row_to_go_by(rows, at)
        if below is None:
            return 0
        if below != at:
            rows[at], rows[below] = rows[below], rows[at]
            sign = -sign
        rows = rows[:at + 1] + [cleared(row, rows[at], at, last) for row in rows[at + 1:]]
        last = rows[at][at]
    return sign * last


def row_to_go_by(rows, at):
    """The first row, from a number on, that has no 0 in the column of that number, or None."""
    for below in range(at, len(rows)):
        if rows[below][at] != 0:
            return below
    return None


def cleared(row, head, at, last):
    """A row with 0 in a column, by the row that heads it and by the head of the step before."""
    # The division leaves no rest (Bareiss), and so all numbers stay whole ones.
    return [(row[col] * head[at] - row[at] * head[col]) // last for col in range(len(row))]


def weight_of_all(names, ties):
    """The sum of the weights of all trees of some names.

    The ties, as in a web, may be alike; one from a name to itself is in no tree.
    """
    places = {name: at for at, name in enumerate(names)}
    table = [[0] * len(names) for _ in names]
    for one, other, weight in ties:
        here, there = places[one], places[other]
        # What is put in and taken off for a tie from a name to itself comes to nothing.
        table[here][here] += weight
        table[there][there] += weight
        table[here][there] -= weight
        table[there][here] -= weight
    return determinant([row[1:] for row in table[1:]])


def weight_of_rest(heads, ties):
    """The sum of the weights of all ways to join the parts of some heads to a tree by ties."""
    parts = sorted(set(list(heads.values())))
    return weight_of_all(parts, [(heads[one], heads[other], weight) for one, other, weight in ties])


def tree_lying_at(web, number):
    """The tree in whose stretch a number lies: trees in order, each as long as its weight."""
    names, ties = web
    heads, weight_so_far, chosen = apart_heads(names), 1, []
    for tie, (one, other, weight) in enumerate(ties):
        if heads[one] == heads[other]:
            continue
        drawn = joined(heads, one, other)
        stretch = weight_so_far * weight * weight_of_rest(drawn, ties[tie + 1:])
        # Of trees alike so far all that have this tie are ahead of all that have not.
        if number < stretch:
            heads, weight_so_far = drawn, weight_so_far * weight
            chosen.append(tie)
        else:
            number -= stretch
    return tuple(chosen)


def weight_ahead(web, tree):
    """The sum of the weights of all trees that are ahead of a tree in order."""
    names, ties = web
    heads, weight_so_far, ahead = apart_heads(names), 1, 0
    for tie, (one, other, weight) in enumerate(ties):
        if heads[one] == heads[other]:
            continue
        drawn = joined(heads, one, other)
        if tie in tree:
            heads, weight_so_far = drawn, weight_so_far * weight
        else:
            ahead += weight_so_far * weight * weight_of_rest(drawn, ties[tie + 1:])
    return ahead
