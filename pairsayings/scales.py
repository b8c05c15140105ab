"""Scales: weights of kinds and of ways as integers, with several sums packed into one."""

from pairsayings.errors import NoWeights
from pairsayings.tables import all_bits, has_bit
from pairsayings.values import is_fraction, power

# The weight of a name that is not weighed.
EVEN = (1, 1)


def need_weights(tongue, thing):
    """Raise NoWeights() unless the thing, any object, is a dict from names of the tongue to fractions."""
    if not isinstance(thing, dict):
        raise NoWeights()
    for name in thing:
        # Only a string is compared with the names: bytes beside strings can make Python warn.
        if not isinstance(name, str) or name not in tongue.marks + tongue.ties:
            raise NoWeights()
        if not is_fraction(thing[name]):
            raise NoWeights()


class Scale:
    """The weights of a tongue's names for worlds with so many things.

    All is reckoned in integers: what has a mark counts the top of its weight and what has not counts the
    bottom, and so for ties; what comes out is divided by all bottoms.

    Several sums stand in one integer, as a polynomial whose unknowns are great powers of 2. The power of the one
    with a slot of bits counts the pairs of a function, that of the one with a width of bits what a row counts.
    A slot is wide enough for each sum that comes out, so that nothing is lost, whatever was added and taken away.
    """

    def __init__(self, tongue, things, weights):
        self.mark_weights = [weights.get(name, EVEN) for name in tongue.marks]
        self.tie_weights = [weights.get(name, EVEN) for name in tongue.ties]
        self.things = things
        self.at_functions = [at for at, name in enumerate(tongue.ties) if name in tongue.functions]
        self.slot = self.most().bit_length()
        self.pair_weights = [self.pair_counts(at) for at in range(len(self.tie_weights))]
        self.width = self.slot * (things * things + 1) if self.at_functions else self.slot

    def most(self):
        """No sum of weights of worlds is more, also if each world counts once for each pair of things."""
        squared = self.things * self.things
        most = squared
        for top, bottom in self.mark_weights:
            most *= power(top + bottom, self.things)
        for at, (top, bottom) in enumerate(self.tie_weights):
            most *= power(2 if at in self.at_functions else top + bottom, squared)
        return most

    def pair_counts(self, at):
        """What a pair counts from and to which the tie leads, and one which it does not."""
        # Of a function each world has as many pairs as things: its weight comes in at the end.
        return (1 << self.slot, 1) if at in self.at_functions else self.tie_weights[at]

    def kind_weight(self, kind):
        """What a thing of this kind counts by itself."""
        weight = 1
        for place, (top, bottom) in enumerate(self.mark_weights + self.pair_weights):
            weight *= top if has_bit(kind, place) else bottom
        return weight

    def way_weight(self, way):
        """What two things count that stand to each other in this way."""
        weight = 1
        for at, (top, bottom) in enumerate(self.pair_weights):
            for place in (2 * at, 2 * at + 1):
                weight *= top if has_bit(way, place) else bottom
        return weight

    def sums(self, packed, many):
        """The list of so many sums, times all bottoms, that are packed into an integer."""
        shift = self.slot * self.things if self.at_functions else 0
        factor = 1
        for at in self.at_functions:
            factor *= power(self.tie_weights[at][0], self.things)
        return [((packed >> (number * self.width + shift)) & all_bits(self.slot)) * factor for number in range(many)]

    def bottoms(self):
        """All bottoms of the weights of a world, multiplied."""
        product = 1
        for _, bottom in self.mark_weights:
            product *= power(bottom, self.things)
        for at, (_, bottom) in enumerate(self.tie_weights):
            product *= power(bottom, self.things if at in self.at_functions else self.things * self.things)
        return product


class Ways:
    """The sums of what two things count, over the ways in which they can stand to each other."""

    def __init__(self, scale, many):
        self.each = [scale.way_weight(way) for way in range(many)]
        self.known = {}

    def weight(self, bits):
        """The sum over the ways whose bits are set."""
        if bits not in self.known:
            self.known[bits] = sum([weight for way, weight in enumerate(self.each) if has_bit(bits, way)])
        return self.known[bits]
