"""The census: sums of the weights of the worlds of one size in which sayings hold."""

from pairsayings.deals import dealt
from pairsayings.frames import Frame
from pairsayings.kinds import Ask, Kinds
from pairsayings.links import Link, linked
from pairsayings.sayings import swapped
from pairsayings.scales import Scale, Ways
from pairsayings.shelves import Shelf, flat
from pairsayings.tables import has_bit, table


def all_truths(numbers):
    """The list of all ways in which the closed entries with these numbers are so (1) or not so (0)."""
    return [truths_of(numbers, bits) for bits in range(1 << len(numbers))]


def truths_of(numbers, bits):
    """A dict to 1 or 0 from the closed entries, as the bits tell, and from what is always so."""
    truths = {("closed", number): int(has_bit(bits, at)) for at, number in enumerate(numbers)}
    truths[("true",)] = 1
    return truths


def told_atoms(atoms, truths, full):
    """The atoms of a frame, and what is so in all of its cases or in none."""
    told = {atom: atoms[atom] for atom in atoms}
    for atom in truths:
        told[atom] = full * truths[atom]
    return told


def narrowed(found, others, so):
    """A dict like this one, from sets of kinds to how often they count, with something so for some thing or for none.

    If it is so for none, all things are of the other kinds; if it is so for some, the worlds count less those.
    """
    left = {allowed: many for allowed, many in found.items() if so}
    for allowed, many in found.items():
        left[allowed & others] = left.get(allowed & others, 0) + (-many if so else many)
    return left


class Census:
    """The worlds of a tongue with so many things, and formulas of the sayings that are asked of them.

    For each way in which the closed entries can be so or not, the worlds in which they are just so are counted
    by themselves: then what stands within an entry is known, and each formula without free names, too.
    """

    def __init__(self, tongue, things, weights, sayings):
        self.shelf = Shelf()
        self.formulas = [flat(saying, self.shelf) for saying in sayings]
        self.function_ties = tongue.functions
        self.things = things
        self.frame = Frame(tongue, self.shelf)
        self.scale = Scale(tongue, things, weights)
        self.ways = Ways(self.scale, self.frame.way_many)
        self.known = {}

    def sums(self, given, part, link):
        """The list of pairs (truths, sum) for the truths with which the formula given is so.

        If part is a formula, and not None, each world counts in the slot of as many things as the part is so of;
        if link is one, it counts as often as the link is so of a thing as x and a thing as y.
        """
        found = all_truths(self.shelf.numbers("closed"))
        return [(truths, self.sum_with(truths, part, link)) for truths in found if table(given, truths, 1) == 1]

    def sum_with(self, truths, part, link):
        """The sum over the worlds in which the closed entries are so as the truths tell."""
        one = told_atoms(self.frame.one, truths, self.frame.full_one)
        two = told_atoms(self.frame.two, truths, self.frame.full_two)
        asks = self.all_asks(one, two)
        label = 0 if part is None else table(part, one, self.frame.full_one)
        links = None
        if link is not None:
            links = Link(table(link, one, self.frame.full_one), table(link, two, self.frame.full_two))
        total = 0
        for allowed, sign in self.allowed(asks, one, truths).items():
            if sign != 0:
                total += sign * self.sum_of(asks, allowed, label, links)
        return total

    def all_asks(self, one, two):
        """The list of what things are asked for: by the parts on the shelf, and by a function."""
        found = []
        for number in self.frame.parts:
            found.append(self.ask(self.shelf.entries[number][1], one, two, one[("part", number, "x")]))
        for name in self.function_ties:
            found.append(self.ask(("tie", name, "x", "y"), one, two, self.frame.full_one))
        return found

    def ask(self, body, one, two, asked):
        """The ask for a thing as y such that the body is so."""
        full = self.frame.full_two
        return Ask(table(body, two, full), table(swapped(body), two, full),
                   table(body, one, self.frame.full_one), asked)

    def allowed(self, asks, one, truths):
        """A dict from sets of kinds, as bits, to how often, with sign, the worlds of these kinds alone count."""
        full = self.frame.full_one
        start = full
        for ask in asks:
            start &= full ^ ask.barred(full)
        found = {start: 1}
        for number in self.shelf.numbers("closed"):
            others = full ^ table(self.shelf.entries[number][1], one, full)
            found = narrowed(found, others, truths[("closed", number)] == 1)
        return found

    def sum_of(self, asks, allowed, label, link):
        """The sum over the worlds of the allowed kinds; what was summed before is known."""
        key = (allowed, allowed & label, tuple([(ask.onward, ask.own) for ask in asks]),
               None if link is None else (link.own, link.onward))
        if key not in self.known:
            self.known[key] = self.new_sum_of(asks, allowed, label, link)
        return self.known[key]

    def new_sum_of(self, asks, allowed, label, link):
        """The same, reckoned anew."""
        weighed = []
        for kind in range(self.frame.kinds):
            if has_bit(allowed, kind):
                shift = self.scale.width if has_bit(label, kind) else 0
                weighed.append((kind, self.scale.kind_weight(kind) << shift))
        kinds = Kinds(self.frame, self.ways, asks, weighed)
        if link is not None:
            return linked(kinds, link, self.things)
        kinds.drop_empty()
        return dealt(kinds.weights(), kinds.rows(), self.things)
