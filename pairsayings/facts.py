"""Facts: which marks some of the things of a world are told to have and not to have."""

from pairsayings.errors import NoFacts
from pairsayings.values import is_sequence


def need_facts(tongue, things, thing):
    """Raise NoFacts() unless the thing, any object, is a sequence of facts about at most so many things."""
    if not is_sequence(thing) or len(thing) > things:
        raise NoFacts()
    if not all([is_fact(tongue, one) for one in thing]):
        raise NoFacts()


def is_fact(tongue, thing):
    """Tell whether the thing, any object, is a dict from marks of the tongue to flags."""
    if not isinstance(thing, dict):
        return False
    for name in thing:
        # Only a string is compared with the names: bytes beside strings can make Python warn.
        if not isinstance(name, str) or name not in tongue.marks:
            return False
        if not isinstance(thing[name], bool):
            return False
    return True


def fact_classes(frame, facts, things):
    """The list of pairs of kinds, as bits, and of how many things are told to be of one of them.

    They are all things, also those of which nothing is told; the list is empty if there are no facts.
    """
    if not facts:
        return []
    found = {frame.full_one: things - len(facts)}
    for fact in facts:
        fitting = fitting_kinds(frame, fact)
        found[fitting] = found.get(fitting, 0) + 1
    return list(found.items())


def fitting_kinds(frame, fact):
    """The kinds, as bits, that have and have not the marks as the fact tells."""
    bits = frame.full_one
    for name, so in fact.items():
        having = frame.one[("mark", name, "x")]
        bits &= having if so else frame.full_one ^ having
    return bits
