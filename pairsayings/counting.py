"""Counting: how many worlds there are in which a saying holds, and their weight."""

from pairsayings.census import Census
from pairsayings.errors import NoThings
from pairsayings.sayings import need_closed
from pairsayings.scales import need_weights
from pairsayings.values import fraction, is_within

MOST_COUNTED = 60


def need_things(thing):
    """Raise NoThings() unless the thing, any object, is a number of things for which worlds are counted."""
    if not is_within(thing, 1, MOST_COUNTED):
        raise NoThings()


def count(tongue, saying, things):
    """The number of the worlds of the tongue with so many things in which a closed saying holds."""
    top, _ = weight(tongue, saying, things, {})
    return top


def weight(tongue, saying, things, weights):
    """The sum of the weights of these worlds, a fraction."""
    need_closed(tongue, saying)
    need_things(things)
    need_weights(tongue, weights)
    census = Census(tongue, things, weights, [saying])
    total = sum([number for _, number in census.sums(census.formulas[0], None, None)])
    return fraction(census.scale.sums(total, 1)[0], census.scale.bottoms())
