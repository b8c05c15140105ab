"""Realms: which kinds of things the worlds of a case can have, and what things of two kinds can do for each other.

A kind asks by its parts for other things; its DEMANDS are those asks, as bits, that no thing meets for itself.
"""

from pairsayings.tables import bits_of, has_bit


class Realm:
    """The kinds of a case, their demands, and the options of each two of them.

    An option is a triple: a way in which the one can stand to the other, the demands of the one that the other
    meets then, and the demands of the other that the one meets. A kind without options beside itself is a KING:
    no world has two things of it.
    """

    def __init__(self, case):
        self.wanted = [told for told, so in case.told_of if so]
        self.kinds = all_kinds(case)
        self.asked = {kind: asked_of(case.asks, kind) for kind in self.kinds}
        self.demands = {kind: self.asked[kind] & unmet_by(case.asks, kind) for kind in self.kinds}
        self.options = {(one, other): self.best_options(case, one, other) for one in self.kinds
                        for other in self.kinds}

    def best_options(self, case, one, other):
        """The options of two kinds without those that are no better than another one."""
        found = {}
        onward = [case.frame.way_bits(ask.onward, one, other) for ask in case.asks]
        toward = [case.frame.way_bits(ask.toward, one, other) for ask in case.asks]
        for way in range(case.frame.way_many):
            met = bits_with(onward, way)
            meeting = bits_with(toward, way)
            # What a thing does not ask for none may meet.
            if within(met, self.asked[one]) and within(meeting, self.asked[other]):
                found.setdefault((met & self.demands[one], meeting & self.demands[other]), way)
        return [(found[bits], bits[0], bits[1]) for bits in found if not is_beaten(bits, found)]


def all_kinds(case):
    """The list of the kinds that a world of the case can have."""
    allowed = case.possible()
    for told, so in case.told_of:
        if not so:
            allowed &= case.frame.full_one ^ told
    return [kind for kind in range(case.frame.kinds) if has_bit(allowed, kind)]


def asked_of(asks, kind):
    """The asks, as bits, that are met for things of the kind."""
    return bits_of([at for at, ask in enumerate(asks) if has_bit(ask.asked, kind)])


def unmet_by(asks, kind):
    """The asks, as bits, that a thing of the kind does not meet for itself."""
    return bits_of([at for at, ask in enumerate(asks) if not has_bit(ask.own, kind)])


def bits_with(tables, place):
    """The indexes, as bits, of the tables that have the bit at the place."""
    return bits_of([at for at, bits in enumerate(tables) if has_bit(bits, place)])


def within(bits, others):
    """Tell whether all bits are among the others."""
    return bits & others == bits


def is_beaten(bits, found):
    """Tell whether another one of the pairs of bits that were found has all bits of this one."""
    met, meeting = bits
    return any([within(met, more) and within(meeting, most) for more, most in found if (more, most) != bits])
