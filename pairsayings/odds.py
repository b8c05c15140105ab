"""Odds: weights and chances of what is known to be as told."""

from pairsayings.census import Census
from pairsayings.errors import NoChance
from pairsayings.tables import table
from pairsayings.values import fraction


def sum_worlds(census, numbers):
    """The sum of the numbers of a census, as one integer."""
    return census.scale.sums(sum(numbers), 1)[0]


def quotient(top, bottom):
    """The fraction of both; NoChance() if the bottom, the weight of what is given, is 0."""
    if bottom == 0:
        raise NoChance()
    return fraction(top, bottom)


def weight_of(tongue, saying, things, weights, facts):
    """The sum of the weights of the worlds in which the saying holds and all facts are so, a fraction."""
    census = Census(tongue, things, weights, [saying], facts)
    found = census.sums(census.formulas[0], None, None)
    return fraction(sum_worlds(census, [number for _, number in found]), census.scale.bottoms())


def chance_of(tongue, saying, given, things, weights, facts):
    """The chance of the saying in the worlds in which all given sayings hold and all facts are so."""
    census = Census(tongue, things, weights, [saying, *given], facts)
    asked = census.formulas[0]
    known = ("true",)
    for formula in census.formulas[1:]:
        known = ("and", known, formula)
    found = census.sums(known, None, None)
    whole = sum_worlds(census, [number for _, number in found])
    both = sum_worlds(census, [number for truths, number in found if table(asked, truths, 1) == 1])
    return quotient(both, whole)
