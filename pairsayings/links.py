"""Links: worlds counted as often as a link leads in them from a thing to one that may be itself."""

from pairsayings.deals import dealt
from pairsayings.tables import has_bit


class Link:
    """Where a saying of x and y is so: own has kinds, of a thing as both names; onward has cases of two."""

    def __init__(self, own, onward):
        self.own = own
        self.onward = onward


def linked(kinds, link, things):
    """The sum of the weights of the worlds with so many things, each as often as it has linked pairs."""
    # All things are alike, so that one and the same pair is looked at for all.
    return things * linked_to_itself(kinds, link, things) + things * (things - 1) * linked_to_other(kinds, link, things)


def linked_to_itself(kinds, link, things):
    """The sum over the worlds in which the first thing is linked to itself."""
    weights = kinds.weights()
    rows = kinds.rows()
    total = 0
    for at, group in enumerate(kinds.groups):
        weight = sum([worth for kind, _, worth in group if has_bit(link.own, kind)])
        if weight != 0:
            others = [one * two for one, two in zip(weights, rows[at])]
            total += weight * dealt(others, rows, things - 1)
    return total


def linked_to_other(kinds, link, things):
    """The sum over the worlds in which the first thing is linked to the second one, if there is one."""
    if things == 1:
        return 0
    weights = kinds.weights()
    rows = kinds.rows()
    total = 0
    for one in range(len(rows)):
        for other in range(len(rows)):
            weight = pair_weight(kinds, link, kinds.groups[one], kinds.groups[other])
            if weight != 0:
                others = [each * to * back for each, to, back in zip(weights, rows[one], rows[other])]
                total += weight * dealt(others, rows, things - 2)
    return total


def pair_weight(kinds, link, one, other):
    """What a thing of the one group and one of the other count together if the link leads to that one."""
    bits = kinds.way_bits(one[0], other[0])
    total = 0
    for kind, _, weight in one:
        for target, _, worth in other:
            ways = bits & kinds.frame.way_bits(link.onward, kind, target)
            total += weight * worth * kinds.ways.weight(ways)
    return total
