"""Builders: worlds of the kinds of a band.

A world has one thing for each king. A thing of the crowd calls for others that meet what kings do not meet for it.
The crowd stands in layers, and each thing calls into the next layer, from the last one into the first one: so no two
things call for each other, and each two things have to stand to each other for the sake of one of them alone.
"""

from pairsayings.tables import has_bit
from pairsayings.worlds import World

LAYERS = 3


class Builder:
    """The things of a world that is built: a kind for each, and ways for some pairs of them."""

    def __init__(self, band):
        self.band = band
        self.realm = band.realm
        self.kinds = list(band.kings)
        self.ways = {}
        self.places = {}

    def build(self):
        """Put in all things, and the ways in which they stand for the sake of demands."""
        for (one, other), way in self.band.king_ways().items():
            self.ways[(self.kinds.index(one), self.kinds.index(other))] = way
        servers = [self.band.server(*pair) for pair in self.band.king_demands()]
        servers = [server for server in servers if server is not None]
        roles = self.all_roles(servers)
        self.add_layers(roles)
        for kind, (met, ways) in servers:
            self.call(self.put_in(kind, ways), 0, self.calls(kind, met))

    def all_roles(self, servers):
        """A dict from the kinds of the crowd that are needed beside the servers to their roles."""
        roles = {}
        left = self.first_kinds()
        for kind, (met, _) in servers:
            left.extend([other for other, _ in self.calls(kind, met)])
        while left:
            kind = left.pop()
            if kind not in roles:
                roles[kind] = self.band.role(kind, None)
                left.extend([other for other, _ in self.calls(kind, roles[kind][0])])
        return roles

    def first_kinds(self):
        """The list of kinds of the crowd, one at least if there is one, such that all is there that must be."""
        found = self.band.crowd[:1]
        for bits in self.realm.wanted:
            if not any([has_bit(bits, kind) for kind in self.band.kings + found]):
                found.append([kind for kind in self.band.crowd if has_bit(bits, kind)][0])
        return found

    def calls(self, kind, met):
        """The list of pairs of a kind, and of a way to stand to it, such that all demands are met that are not yet."""
        found = []
        for demand in self.band.demand_list(kind):
            if not has_bit(met, demand):
                other, way, more = self.caller(kind, demand)
                found.append((other, way))
                met |= more
        return found

    def caller(self, kind, demand):
        """A triple of a kind of the crowd that meets the demand, the way in which, and all that it meets."""
        return [(other, way, met) for other in self.band.crowd for way, met, _ in self.realm.options[(kind, other)]
                if has_bit(met, demand)][0]

    def put_in(self, kind, ways):
        """Put in a thing that stands to the kings in these ways; the number of the thing."""
        thing = len(self.kinds)
        self.kinds.append(kind)
        for king, way in enumerate(ways):
            self.ways[(thing, king)] = way
        return thing

    def call(self, thing, layer, calls):
        """Let a thing stand to those for which it calls, each in a row of its own of the layer."""
        for row, (kind, way) in enumerate(calls):
            self.ways[(thing, self.places[(layer, row, kind)])] = way

    def add_layers(self, roles):
        """Put in the crowd, with the kinds of these roles in each row of each layer."""
        calls = {kind: self.calls(kind, met) for kind, (met, _) in roles.items()}
        rows = max([1] + [len(told) for told in calls.values()])
        for layer in range(LAYERS):
            for row in range(rows):
                for kind, (_, ways) in roles.items():
                    self.places[(layer, row, kind)] = self.put_in(kind, ways)
        for (layer, _, kind), thing in self.places.items():
            self.call(thing, (layer + 1) % LAYERS, calls[kind])

    def way(self, one, other):
        """The way in which the one thing stands to the other one; any that may be if none was put in."""
        if (one, other) in self.ways:
            return self.ways[(one, other)]
        return self.realm.options[(self.kinds[one], self.kinds[other])][0][0]

    def pairs(self):
        """The list of all pairs of two things, those first that were put in."""
        every = [(one, other) for one in range(len(self.kinds)) for other in range(one)]
        return list(self.ways) + [(one, other) for one, other in every if not self.is_told(one, other)]

    def is_told(self, one, other):
        """Tell whether a way was put in for the two things."""
        return (one, other) in self.ways or (other, one) in self.ways

    def world(self, tongue):
        """The world of the tongue with these things."""
        marks = {}
        ties = {}
        for place, name in enumerate(tongue.marks + tongue.ties):
            having = [thing for thing, kind in enumerate(self.kinds) if has_bit(kind, place)]
            if name in tongue.marks:
                marks[name] = having
            else:
                ties[name] = [(thing, thing) for thing in having]
        for one, other in self.pairs():
            way = self.way(one, other)
            for at, name in enumerate(tongue.ties):
                if has_bit(way, 2 * at):
                    ties[name].append((one, other))
                if has_bit(way, 2 * at + 1):
                    ties[name].append((other, one))
        return World(tongue, len(self.kinds), marks, ties)

    def likes(self):
        """A pair of two like things of the crowd, which must not be empty."""
        kind = self.band.crowd[0]
        return self.places[(0, 0, kind)], self.places[(1, 0, kind)]
