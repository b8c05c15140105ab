"""Walks: the worlds of one size in which a saying holds, counted while they are told place by place.

The places of a row are (j, j) for each thing j in turn, then (i, j) for each two things i below j. The flags that a
row has for a place, read as a binary number, the first flag highest, are the NUMBER of what stands there.
"""

from pairsayings.census import Census
from pairsayings.deals import dealt
from pairsayings.tables import has_bit


def all_places(tongue, things):
    """The list of the places of a row for which it has flags, in its order."""
    found = [(thing, thing) for thing in range(things)]
    found.extend([(one, other) for one in range(things) for other in range(one + 1, things)])
    return [place for place in found if place_width(tongue, place) != 0]


def place_width(tongue, place):
    """How many flags a row has for the place."""
    if place[0] == place[1]:
        return len(tongue.marks) + len(tongue.ties)
    return 2 * len(tongue.ties)


def reversed_bits(bits, width):
    """The bits of so many places in reversed order."""
    return sum([1 << (width - 1 - place) for place in range(width) if has_bit(bits, place)])


def turned_way(way, width):
    """The way in which the one of two things stands to the other, from that of the other to the one."""
    return sum([1 << (place ^ 1) for place in range(width) if has_bit(way, place)])


class Term:
    """Kinds with a sign, and what is known of the things of a walk as groups of these kinds.

    The BASE of a thing is what its kind tells of marks and ties. A CHOICE is a list of pairs of a group that a
    thing can have and of its weight.
    """

    def __init__(self, sign, kinds, bases):
        self.sign = sign
        self.each_way = kinds.ways.each
        self.group_weights = kinds.weights()
        self.group_rows = kinds.rows()
        heads = [group[0] for group in kinds.groups]
        self.way_sets = [[kinds.way_bits(one, other) for other in heads] for one in heads]
        self.choices = [base_choice(kinds.groups, base, bases) for base in range(bases)]

    def sum_of_things(self, told, weights, left):
        """The sum over what is not told if the things told of have these choices, and so many others are left.

        The weights are those of all groups for a thing that is left.
        """
        if not told:
            return dealt(weights, self.group_rows, left)
        if len(told) == 1 and left == 0:
            return sum([weight for _, weight in told[0]])
        total = 0
        for group, weight in told[0]:
            row = self.group_rows[group]
            others = [beside_row(choice, row) for choice in told[1:]]
            total += weight * self.sum_of_things(others, [one * two for one, two in zip(weights, row)], left)
        return total

    def sum_of_pairs(self, told, ways):
        """The sum over what is not told of pairs, for pairs of a thing and of its choice, and for the told ways."""
        if not told:
            return 1
        thing, choice = told[0]
        if len(told) == 1:
            return sum([weight for _, weight in choice])
        return sum([weight * self.sum_of_pairs(self.beside(thing, group, told[1:], ways), ways)
                    for group, weight in choice])

    def sums_of_ways(self, told, ways):
        """The list of the same sums for each way in which the first thing can stand to the second one."""
        one, choice = told[0]
        other, targets = told[1]
        sums = [0] * len(self.each_way)
        for group, weight in choice:
            rest = self.beside(one, group, told[2:], ways)
            for target, worth in targets:
                left = weight * worth * self.sum_of_pairs(self.beside(other, target, rest, ways), ways)
                for way, each in enumerate(self.each_way):
                    if has_bit(self.way_sets[group][target], way):
                        sums[way] += left * each
        return sums

    def beside(self, thing, group, told, ways):
        """The things with their choices, with what counts beside the thing if it is of the group."""
        return [(other, beside_row(choice, self.row_by(group, ways.get((thing, other))))) for other, choice in told]

    def row_by(self, group, way):
        """What a thing of the group counts beside each group if it stands to it in this way, or in any for None."""
        if way is None:
            return self.group_rows[group]
        return [self.each_way[way] if has_bit(bits, way) else 0 for bits in self.way_sets[group]]


def base_choice(groups, base, bases):
    """The choice of a thing with this base, one of so many."""
    weights = [sum([weight for kind, _, weight in group if kind & (bases - 1) == base]) for group in groups]
    return [(group, weight) for group, weight in enumerate(weights) if weight != 0]


def beside_row(choice, row):
    """The choice with weights that also count what the row has for each group."""
    return [(group, weight * row[group]) for group, weight in choice if row[group] != 0]


class Walk:
    """The worlds of a tongue with so many things in which a saying holds, and what is told of them so far."""

    def __init__(self, tongue, saying, things):
        census = Census(tongue, things, {}, [saying])
        self.tongue = tongue
        self.things = things
        self.scale = census.scale
        self.base_many = 1 << place_width(tongue, (0, 0))
        self.terms = [Term(sign, kinds, self.base_many) for sign, kinds in census.signed_kinds(census.formulas[0])]
        self.bases = []
        self.told_ways = {}

    def whole(self):
        """The number of all worlds."""
        return self.worlds(sum([term.sign * term.sum_of_things([], term.group_weights, self.things)
                                for term in self.terms]))

    def worlds(self, packed):
        """The number of worlds that was summed up."""
        return self.scale.sums(packed, 1)[0]

    def tell(self, place, number):
        """Tell what stands at the place, the next one of the walk."""
        one, other = place
        width = place_width(self.tongue, place)
        bits = reversed_bits(number, width)
        if one == other:
            self.bases.append(bits)
        else:
            self.told_ways[(one, other)] = bits
            self.told_ways[(other, one)] = turned_way(bits, width)

    def numbers(self, place):
        """The list of how many worlds there are with each number at the place, the next one of the walk."""
        found = self.sums_of_bases() if place[0] == place[1] else self.sums_of_ways(place)
        width = place_width(self.tongue, place)
        return [self.worlds(found[reversed_bits(number, width)]) for number in range(1 << width)]

    def sums_of_bases(self):
        """The list of the sums over the worlds in which the next thing has each base."""
        left = self.things - len(self.bases) - 1
        sums = [0] * self.base_many
        for term in self.terms:
            told = [term.choices[base] for base in self.bases]
            for base in range(self.base_many):
                sums[base] += term.sign * term.sum_of_things(told + [term.choices[base]], term.group_weights, left)
        return sums

    def sums_of_ways(self, place):
        """The list of the sums over the worlds in which the things of the place stand in each way."""
        order = list(place) + [thing for thing in range(self.things) if thing not in place]
        sums = [0] * (1 << place_width(self.tongue, place))
        for term in self.terms:
            told = [(thing, term.choices[self.bases[thing]]) for thing in order]
            for way, number in enumerate(term.sums_of_ways(told, self.told_ways)):
                sums[way] += term.sign * number
        return sums
