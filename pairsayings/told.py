"""Weights and chances of worlds in which it is told of some things which marks they have."""

from pairsayings.chances import need_scale
from pairsayings.facts import need_facts
from pairsayings.odds import chance_of, weight_of
from pairsayings.sayings import need_closed


def weight_told(tongue, saying, things, weights, facts):
    """The weight of the worlds in which the saying holds and all facts are so."""
    need_closed(tongue, saying)
    need_scale(tongue, things, weights)
    need_facts(tongue, things, facts)
    return weight_of(tongue, saying, things, weights, facts)


def chance_told(tongue, saying, given, things, weights, facts):
    """The weight of the worlds in which both sayings hold, divided by that of given, each with the facts."""
    need_closed(tongue, saying)
    need_closed(tongue, given)
    need_scale(tongue, things, weights)
    need_facts(tongue, things, facts)
    return chance_of(tongue, saying, [given], things, weights, facts)
