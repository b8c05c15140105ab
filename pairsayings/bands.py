"""Bands: the kinds that are together in a world.

Of each king there is one thing. The other kinds are the CROWD: as soon as a world has one thing of such a kind, it
can have more that stand to all others as that one does, so that there are as many as are needed.
"""

from pairsayings.realms import within
from pairsayings.tables import has_bit


class Band:
    """Kinds of a realm, and what they do for each other."""

    def __init__(self, realm, kinds):
        self.realm = realm
        self.kinds = kinds
        self.kings = [kind for kind in kinds if not realm.options[(kind, kind)]]
        self.crowd = [kind for kind in kinds if realm.options[(kind, kind)]]

    def foes(self, kind):
        """The list of the other kinds of which no thing can be beside one of this kind."""
        return [other for other in self.kinds if other != kind and not self.realm.options[(kind, other)]]

    def covers(self):
        """Tell whether there is some thing of all that some thing must be."""
        return all([any([has_bit(bits, kind) for kind in self.kinds]) for bits in self.realm.wanted])

    def demand_list(self, kind):
        """The list of the demands of a kind."""
        bits = self.realm.demands[kind]
        return [at for at in range(bits.bit_length()) if has_bit(bits, at)]

    def met_by_crowd(self, kind):
        """The demands of a kind, as bits, that some thing of the crowd can meet."""
        found = 0
        for other in self.crowd:
            for _, met, _ in self.realm.options[(kind, other)]:
                found |= met
        return found

    def role(self, kind, wish):
        """How a thing of the crowd can stand to the kings, such that these and the crowd meet all of its demands.

        It is a pair of the demands that kings meet, as bits, and of a tuple of ways, one for each king; None if
        there is none. A wish that is not None is a pair of a king and of a demand of it that the thing meets, too.
        """
        found = {0: ()}
        for king in self.kings:
            step = {}
            for way, met in self.ways_to_king(kind, king, wish):
                for bits, ways in found.items():
                    step.setdefault(bits | met, ways + (way,))
            found = step
        by_crowd = self.met_by_crowd(kind)
        for bits, ways in found.items():
            if within(self.realm.demands[kind], bits | by_crowd):
                return bits, ways
        return None

    def ways_to_king(self, kind, king, wish):
        """The list of pairs of a way to stand to the king, and of the demands of the kind that he meets then."""
        options = self.realm.options[(kind, king)]
        if wish is not None and wish[0] == king:
            return [(way, met) for way, met, meeting in options if has_bit(meeting, wish[1])]
        # While kinds are still left out, a kind and a king that is its foe look away from each other.
        return [(way, met) for way, met, _ in options] or [(None, 0)]

    def server(self, king, demand):
        """A pair of a kind of the crowd and of its role, such that it meets a demand of the king; or None."""
        for kind in self.crowd:
            role = self.role(kind, (king, demand))
            if role is not None:
                return kind, role
        return None

    def lives(self, kind):
        """Tell whether the demands of the kind can be met, each for itself."""
        if kind in self.crowd:
            return self.role(kind, None) is not None
        return all([self.peer_options(kind, demand, {}) != [] or self.server(kind, demand) is not None
                    for demand in self.demand_list(kind)])

    def king_demands(self):
        """The list of pairs of a king and of a demand of it."""
        return [(king, demand) for king in self.kings for demand in self.demand_list(king)]

    def king_ways(self):
        """A dict from pairs of kings to a way in which they stand, such that all is met that the crowd does not meet.

        None if there is no such dict.
        """
        return self.agreed([pair for pair in self.king_demands() if self.server(*pair) is None], {}, {})

    def agreed(self, left, ways, met):
        """The same, if some ways are told, some demands are left, and of each king these are met, as bits."""
        if not left:
            return ways
        king, demand = left[0]
        if has_bit(met.get(king, 0), demand):
            return self.agreed(left[1:], ways, met)
        for other, (way, mine, theirs) in self.peer_options(king, demand, ways):
            more_ways = {pair: ways[pair] for pair in ways}
            more_ways[(king, other)] = way
            more = {king: met.get(king, 0) | mine, other: met.get(other, 0) | theirs}
            found = self.agreed(left[1:], more_ways, {**met, **more})
            if found is not None:
                return found
        return None

    def peer_options(self, king, demand, ways):
        """The list of pairs of another king and of an option that meets the demand, if no way of both is told."""
        others = [other for other in self.kings if other != king and (king, other) not in ways
                  and (other, king) not in ways]
        return [(other, option) for other in others for option in self.realm.options[(king, other)]
                if has_bit(option[1], demand)]


def settled(realm, kinds):
    """The band of those of the kinds whose demands can be met, each for itself, by those that are left."""
    band = Band(realm, kinds)
    left = [kind for kind in kinds if band.lives(kind)]
    return band if len(left) == len(kinds) else settled(realm, left)


def find_band(realm, kinds, crowded):
    """A band of some of the kinds of which there is a world, with a crowd if it must be crowded; None without one.

    Kings that can be together may ask too much of each other all the same: then some of them have to be left out.
    """
    band = settled(realm, kinds)
    if not band.covers() or not (band.crowd if crowded else band.kinds):
        return None
    for kind in band.kinds:
        if band.foes(kind):
            return find_apart(band, kind, crowded)
    if band.king_ways() is not None:
        return band
    for king in band.kings:
        found = find_band(realm, [kind for kind in band.kinds if kind != king], crowded)
        if found is not None:
            return found
    return None


def find_apart(band, kind, crowded):
    """The same, for a kind of the band that has foes: they are left out, or it is."""
    foes = band.foes(kind)
    found = find_band(band.realm, [other for other in band.kinds if other not in foes], crowded)
    if found is not None:
        return found
    return find_band(band.realm, [other for other in band.kinds if other != kind], crowded)


def king_sizes(realm):
    """The list of the numbers of things of all worlds of the realm that have kings alone, some more than once."""
    kings = Band(realm, realm.kinds).kings
    bands = [Band(realm, court) for court in courts(realm, kings)]
    return [len(band.kinds) for band in bands if band.covers() and band.king_ways() is not None]


def courts(realm, kings):
    """The list of all lists of one or more of the kings that can stand beside each other."""
    if not kings:
        return []
    first = kings[0]
    beside = [king for king in kings[1:] if realm.options[(first, king)]]
    return [[first]] + [[first] + court for court in courts(realm, beside)] + courts(realm, kings[1:])
