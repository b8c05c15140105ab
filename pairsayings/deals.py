"""Deals: the sums over all ways to deal unlike things to kinds, without listing the things."""

from math import comb

from pairsayings.values import power


def dealt(weights, rows, things):
    """The sum over all ways to deal so many unlike things to kinds.

    Each way counts the weight of the kind of each thing, times what the rows have for the kinds of each two things.
    """
    return dealt_to([(kind, weight) for kind, weight in enumerate(weights) if weight != 0], rows, things)


def dealt_to(kinds, rows, things):
    """The same, with the pairs of the kinds that a thing can still have and of their weights."""
    if things == 0:
        return 1
    if things == 1:
        return sum([weight for _, weight in kinds])
    return sum([dealt_from(kinds[place:], rows, things) for place in range(len(kinds))])


def dealt_from(kinds, rows, things):
    """The part of the same in which some thing has the first of these kinds."""
    first, step = kinds[0]
    rest = kinds[1:]
    row = rows[first]
    total = 0
    scale = 1
    for many in range(1, things + 1):
        # One more thing of the first kind: it stands to those before it, and to all that are left.
        scale *= step
        step *= row[first]
        if scale == 0:
            break
        rest = [(kind, weight * row[kind]) for kind, weight in rest if row[kind] != 0]
        total += comb(things, many) * scale * dealt_to(rest, rows, things - many)
    return total


def dealt_told(classes, rows, things):
    """The sum over all ways to deal so many unlike things to kinds, if the things are in classes.

    The classes are pairs of a list of weights, as above but for the things of this class, and of their number.
    """
    base = things + 1
    found = {0: 1}
    for weights, many in classes:
        steps = [(power(base, kind), weight) for kind, weight in enumerate(weights) if weight != 0]
        for _ in range(many):
            found = one_more(found, steps)
    return sum([number * stood(digits(packed, base), rows) for packed, number in found.items()])


def one_more(found, steps):
    """What is found with one more thing, from how many things each kind has, packed as digits, to how often."""
    more = {}
    for packed, number in found.items():
        for step, weight in steps:
            more[packed + step] = more.get(packed + step, 0) + number * weight
    return more


def digits(packed, base):
    """The list of pairs of a place and of the digit there, where it is not 0."""
    found = []
    place = 0
    while packed:
        if packed % base:
            found.append((place, packed % base))
        packed //= base
        place += 1
    return found


def stood(numbers, rows):
    """What the rows have for each two of so many things of these kinds."""
    product = 1
    for at, (kind, many) in enumerate(numbers):
        product *= power(rows[kind][kind], many * (many - 1) // 2)
        for other, more in numbers[:at]:
            product *= power(rows[kind][other], many * more)
    return product
