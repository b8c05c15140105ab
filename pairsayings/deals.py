"""Deals: the sums over all ways to deal unlike things to kinds, without listing the things."""

from math import comb


def dealt(weights, rows, things):
    """The sum over all ways to deal so many unlike things to kinds.

    Each way counts the weight of the kind of each thing, times what the rows have for the kinds of each two things.
    """
    return dealt_to([(kind, weight) for kind, weight in enumerate(weights) if weight != 0], rows, things)


def dealt_to(kinds, rows, things):
    """The same, with the pairs of the kinds that a thing can still have and of their weights."""
    if things == 0:
        return 1
    if things == 1:
        return sum([weight for _, weight in kinds])
    return sum([dealt_from(kinds[place:], rows, things) for place in range(len(kinds))])


def dealt_from(kinds, rows, things):
    """The part of the same in which some thing has the first of these kinds."""
    first, step = kinds[0]
    rest = kinds[1:]
    row = rows[first]
    total = 0
    scale = 1
    for many in range(1, things + 1):
        # One more thing of the first kind: it stands to those before it, and to all that are left.
        scale *= step
        step *= row[first]
        if scale == 0:
            break
        rest = [(kind, weight * row[kind]) for kind, weight in rest if row[kind] != 0]
        total += comb(things, many) * scale * dealt_to(rest, rows, things - many)
    return total
