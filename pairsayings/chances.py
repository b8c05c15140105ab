"""Chances, rows and means of the worlds of one size."""

from pairsayings.census import Census
from pairsayings.counting import need_things
from pairsayings.errors import NoPart
from pairsayings.odds import chance_of, quotient, sum_worlds
from pairsayings.sayings import free_places, need_closed, need_saying
from pairsayings.scales import need_weights
from pairsayings.values import fraction


def need_part(tongue, thing):
    """Raise NoSaying(), then NoPart(), unless the thing, any object, is a saying in which y is not free."""
    need_saying(tongue, thing)
    if "y" in free_places(thing):
        raise NoPart()


def need_scale(tongue, things, weights):
    """Raise NoThings(), then NoWeights(), unless both are as told."""
    need_things(things)
    need_weights(tongue, weights)


def chance(tongue, saying, given, things, weights):
    """The weight of the worlds in which both sayings hold, divided by that of those in which given holds."""
    need_closed(tongue, saying)
    need_closed(tongue, given)
    need_scale(tongue, things, weights)
    return chance_of(tongue, saying, [given], things, weights, [])


def row(tongue, saying, part, things, weights):
    """The list of the weights of the worlds in which the saying holds, by the number of things of the part."""
    need_closed(tongue, saying)
    need_part(tongue, part)
    need_scale(tongue, things, weights)
    census = Census(tongue, things, weights, [saying, part])
    bottoms = census.scale.bottoms()
    return [fraction(number, bottoms) for number in row_sums(census)]


def row_sums(census):
    """The sums of the worlds in which the first formula is so, by how many things the second one is so of."""
    known, part = census.formulas
    total = sum([number for _, number in census.sums(known, part, None)])
    return census.scale.sums(total, census.things + 1)


def part_sums(tongue, part, given, things, weights):
    """The row of a part where given holds, times all bottoms; all errors but NoChance() for mean and spread."""
    need_part(tongue, part)
    need_closed(tongue, given)
    need_scale(tongue, things, weights)
    return row_sums(Census(tongue, things, weights, [given, part]))


def mean(tongue, part, given, things, weights):
    """The mean number of the things of the part in the worlds in which given holds."""
    sums = part_sums(tongue, part, given, things, weights)
    return quotient(sum([many * number for many, number in enumerate(sums)]), sum(sums))


def spread(tongue, part, given, things, weights):
    """The mean of the square of this number, less the square of its mean."""
    sums = part_sums(tongue, part, given, things, weights)
    whole = sum(sums)
    first = sum([many * number for many, number in enumerate(sums)])
    second = sum([many * many * number for many, number in enumerate(sums)])
    return quotient(second * whole - first * first, whole * whole)


def mean_pairs(tongue, link, given, things, weights):
    """The mean number of the pairs of things of which the link is so, in the worlds in which given holds."""
    need_saying(tongue, link)
    need_closed(tongue, given)
    need_scale(tongue, things, weights)
    census = Census(tongue, things, weights, [link, given])
    linked, known = census.formulas
    whole = sum_worlds(census, [number for _, number in census.sums(known, None, None)])
    pairs = sum_worlds(census, [number for _, number in census.sums(known, None, linked)])
    return quotient(pairs, whole)
