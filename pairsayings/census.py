"""The census: sums of the weights of the worlds of one size in which sayings hold."""

from pairsayings.deals import dealt, dealt_told
from pairsayings.facts import fact_classes
from pairsayings.kinds import Kinds
from pairsayings.links import Link, linked
from pairsayings.scales import Scale, Ways
from pairsayings.scenes import Case, Scene
from pairsayings.tables import has_bit, table


def narrowed(found, others, so):
    """A dict like this one, from sets of kinds to how often they count, with something so for some thing or for none.

    If it is so for none, all things are of the other kinds; if it is so for some, the worlds count less those.
    """
    left = {allowed: many for allowed, many in found.items() if so}
    for allowed, many in found.items():
        left[allowed & others] = left.get(allowed & others, 0) + (-many if so else many)
    return left


def allowed_kinds(case):
    """A dict from sets of kinds, as bits, to how often, with sign, the worlds of these kinds alone count."""
    found = {case.possible(): 1}
    for told, so in case.told_of:
        found = narrowed(found, case.frame.full_one ^ told, so)
    return found


class Census:
    """The worlds of a tongue with so many things, and formulas of the sayings that are asked of them.

    For each way in which the closed entries can be so or not, the worlds in which they are just so are counted
    by themselves. If there are facts, only those worlds are counted in which they are so.
    """

    def __init__(self, tongue, things, weights, sayings, facts=()):
        self.scene = Scene(tongue, sayings)
        self.formulas = self.scene.formulas
        self.things = things
        self.frame = self.scene.frame
        self.scale = Scale(tongue, things, weights)
        self.ways = Ways(self.scale, self.frame.way_many)
        self.classes = fact_classes(self.frame, facts, things)
        self.known = {}

    def sums(self, given, part, link):
        """The list of pairs (truths, sum) for the truths with which the formula given is so.

        If part is a formula, and not None, each world counts in the slot of as many things as the part is so of;
        if link is one, it counts as often as the link is so of a thing as x and a thing as y.
        """
        return [(truths, self.sum_with(truths, part, link)) for truths in self.truths_with(given)]

    def truths_with(self, given):
        """The list of the truths with which the formula given is so."""
        return [truths for truths in self.scene.truths() if table(given, truths, 1) == 1]

    def sum_with(self, truths, part, link):
        """The sum over the worlds in which the closed entries are so as the truths tell."""
        case = Case(self.scene, truths)
        label = 0 if part is None else table(part, case.one, self.frame.full_one)
        links = None
        if link is not None:
            links = Link(table(link, case.one, self.frame.full_one), table(link, case.two, self.frame.full_two))
        total = 0
        for allowed, sign in allowed_kinds(case).items():
            if sign != 0:
                total += sign * self.sum_of(case.asks, allowed, label, links)
        return total

    def sum_of(self, asks, allowed, label, link):
        """The sum over the worlds of the allowed kinds; what was summed before is known."""
        key = (allowed, allowed & label, asks_key(asks), None if link is None else (link.own, link.onward))
        if key not in self.known:
            self.known[key] = self.new_sum_of(self.kinds_of(asks, allowed, label), link)
        return self.known[key]

    def kinds_of(self, asks, allowed, label):
        """The allowed kinds with bars; those of the label count one width more."""
        weighed = []
        for kind in range(self.frame.kinds):
            if has_bit(allowed, kind):
                shift = self.scale.width if has_bit(label, kind) else 0
                weighed.append((kind, self.scale.kind_weight(kind) << shift))
        return Kinds(self.frame, self.ways, asks, weighed)

    def new_sum_of(self, kinds, link):
        """The sum over the worlds of these kinds, reckoned anew."""
        if link is not None:
            return linked(kinds, link, self.things)
        if self.classes:
            told = [(kinds.weights_of(fitting), many) for fitting, many in self.classes]
            return dealt_told(told, kinds.rows(), self.things)
        kinds.drop_empty()
        return dealt(kinds.weights(), kinds.rows(), self.things)

    def signed_kinds(self, given):
        """The list of pairs of a sign and of kinds: the worlds in which given is so are as many as those, with sign."""
        signs = {}
        found = {}
        for truths in self.truths_with(given):
            case = Case(self.scene, truths)
            for allowed, sign in allowed_kinds(case).items():
                key = (allowed, asks_key(case.asks))
                signs[key] = signs.get(key, 0) + sign
                found[key] = (case.asks, allowed)
        return [(signs[key], self.kinds_of(asks, allowed, 0)) for key, (asks, allowed) in found.items()
                if signs[key] != 0]


def asks_key(asks):
    """What tells apart the asks of the cases of one scene."""
    return tuple([(ask.onward, ask.own) for ask in asks])
