"""The ties of a web shared out to so many forests, no tie to two, as many ties as can be.

It is kept which forest, told by a number, each tie is at home in, as a dict.
"""

from treerounds.trees.trees import way_beside


def shared_out(web, many):
    """The homes of as many ties as so many forests can hold, and a list of the ties left over."""
    homes, left = {}, []
    for tie in range(len(web[1])):
        wanted_by, found = sought(web, homes, many, [tie])
        if found is None:
            # What has no place now has none later either, as ties with a home keep having one.
            left.append(tie)
        else:
            homes = moved(homes, wanted_by, found)
    return homes, left


def sought(web, homes, many, starts):
    """Which places ties want so that some ties may come in, up to a tie that finds a free place.

    A tie wants the places of all that are on the way between its names in a forest. Told are a
    dict from each tie that is met to the tie that wants its place, None for the first ones, and
    the free place as a pair (tie, forest), or None where there is none.
    """
    wanted_by, queue = {tie: None for tie in starts}, list(starts)
    while queue:
        tie = queue.pop(0)
        for home in range(many):
            if homes.get(tie) == home:
                continue
            way = way_beside(web, forest_at(homes, home), tie)
            if way is None:
                return wanted_by, (tie, home)
            for held in way:
                if held not in wanted_by:
                    wanted_by[held] = tie
                    queue.append(held)
    return wanted_by, None


def moved(homes, wanted_by, found):
    """The homes when a tie goes to a free place, and to its own place the tie that wants it."""
    homes = dict(homes)
    tie, home = found
    while tie is not None:
        free = homes.get(tie)
        homes[tie] = home
        tie, home = wanted_by[tie], free
    return homes


def forest_at(homes, home):
    """The ties that are at home in one forest, rising."""
    return tuple(sorted([tie for tie in homes if homes[tie] == home]))


def forests_at(homes, many):
    """The ties of each forest."""
    return tuple([forest_at(homes, home) for home in range(many)])
