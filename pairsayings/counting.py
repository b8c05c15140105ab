"""Counting: how many worlds there are in which a saying holds, and their weight."""

from pairsayings.errors import NoThings
from pairsayings.odds import weight_of
from pairsayings.sayings import need_closed
from pairsayings.scales import need_weights
from pairsayings.values import is_within

MOST_COUNTED = 60


def need_things(thing):
    """Raise NoThings() unless the thing, any object, is a number of things for which worlds are counted."""
    if not is_within(thing, 1, MOST_COUNTED):
        raise NoThings()


def count(tongue, saying, things):
    """The number of the worlds of the tongue with so many things in which a closed saying holds."""
    top, _ = weight(tongue, saying, things, {})
    return top


def weight(tongue, saying, things, weights):
    """The sum of the weights of these worlds, a fraction."""
    need_closed(tongue, saying)
    need_things(things)
    need_weights(tongue, weights)
    return weight_of(tongue, saying, things, weights, [])
