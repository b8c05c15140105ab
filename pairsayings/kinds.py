"""Kinds: the kinds of things that are counted, some with a minus, and how things of two kinds can stand.

A thing of which something is so for some thing is counted as if nothing were asked, less the ways in which it
is so for none. So a kind comes with a set of BARS, the asks that no thing meets for it, and with a sign.
"""

from pairsayings.tables import has_bit


class Ask:
    """What a thing as x is asked for: a thing as y such that something is so."""

    def __init__(self, onward, toward, own, asked):
        # The cases of two in which y meets the ask of x, and those in which x meets the ask of y.
        self.onward = onward
        self.toward = toward
        # The kinds of which a thing meets its own ask.
        self.own = own
        # The kinds of which each thing's ask is met; of the others it is met by none.
        self.asked = asked

    def barred(self, full):
        """The kinds of which no thing can be: it meets its own ask, which none may meet."""
        return self.own & (full ^ self.asked)


def signed_bars(asks, kind):
    """The list of pairs of a set of bars, as bits, and of a sign with which the kind is counted with them."""
    found = [(0, 1)]
    for at, ask in enumerate(asks):
        barred = [(bars | (1 << at), sign) for bars, sign in found]
        if not has_bit(ask.asked, kind):
            found = barred
        elif not has_bit(ask.own, kind):
            found.extend([(bars, -sign) for bars, sign in barred])
    return found


def unions(tables):
    """The list of what is in any table of a set of them, by the bits of the set."""
    found = [0]
    for bits in tables:
        found = found + [one | bits for one in found]
    return found


class Kinds:
    """The kinds with bars, as members of groups: those of one group stand alike to all of each group.

    A member is a tuple of its kind, its bars and its weight with sign.
    """

    def __init__(self, frame, ways, asks, weighed):
        self.frame = frame
        self.ways = ways
        self.asks = asks
        self.onward = unions([ask.onward for ask in asks])
        self.toward = unions([ask.toward for ask in asks])
        groups = {}
        for kind, weight in weighed:
            for bars, sign in signed_bars(asks, kind):
                groups.setdefault(self.stand(kind, bars), []).append((kind, bars, sign * weight))
        self.groups = list(groups.values())

    def stand(self, kind, bars):
        """How a thing of the kind with the bars stands to all others: a key that is alike in a group."""
        backs = tuple([self.frame.row(ask.toward, kind) for ask in self.asks])
        return self.frame.row(self.onward[bars], kind), backs

    def way_bits(self, one, other):
        """The ways in which a thing like the one member can stand to one like the other."""
        barred = self.onward[one[1]] | self.toward[other[1]]
        return self.frame.way_bits(self.frame.full_two ^ barred, one[0], other[0])

    def weights(self):
        """The list of the weights of the groups."""
        return [sum([weight for _, _, weight in group]) for group in self.groups]

    def weights_of(self, fitting):
        """The same of those members alone whose kinds are among the fitting ones, as bits."""
        return [sum([weight for kind, _, weight in group if has_bit(fitting, kind)]) for group in self.groups]

    def drop_empty(self):
        """Leave out the groups whose members cancel each other out."""
        weights = self.weights()
        self.groups = [group for group, weight in zip(self.groups, weights) if weight != 0]

    def rows(self):
        """The table of what two things of two groups count."""
        heads = [group[0] for group in self.groups]
        return [[self.ways.weight(self.way_bits(one, other)) for other in heads] for one in heads]
