"""Frames: what there is to tell of one thing and of two unlike things, as tables of all cases.

The kind of a thing is an integer with a bit for each mark, for each tie to itself and for each part on the
shelf. A case of one thing is its kind. A case of two is (kind of x * kinds + kind of y) * way_many + way, and
the way has two bits for each tie: whether it leads from x to y, and whether from y to x.
"""

from pairsayings.sayings import NAMES
from pairsayings.tables import all_bits, column


class Frame:
    """The cases of one thing and of two, and the tables of what is told of them."""

    def __init__(self, tongue, shelf):
        self.told = [("mark", name) for name in tongue.marks] + [("tie", name) for name in tongue.ties]
        self.parts = shelf.numbers("part")
        self.told.extend([("part", number) for number in self.parts])
        self.tie_names = tongue.ties
        self.kinds = 1 << len(self.told)
        self.way_many = 1 << (2 * len(tongue.ties))
        self.full_one = all_bits(self.kinds)
        self.full_two = all_bits(self.kinds * self.kinds * self.way_many)
        self.one = self.atoms_of_one()
        self.two = self.atoms_of_two()

    def atoms_of_one(self):
        """The tables of one thing that both names mean."""
        atoms = {}
        for v in NAMES:
            for w in NAMES:
                atoms[("same", v, w)] = self.full_one
        for place, told in enumerate(self.told):
            bits = column(place, len(self.told))
            for atom in named(told, NAMES):
                atoms[atom] = bits
        return atoms

    def atoms_of_two(self):
        """The tables of two unlike things, x and y."""
        low = 2 * len(self.tie_names)
        many = len(self.told)
        width = low + 2 * many
        atoms = {}
        for v, start in (("x", low + many), ("y", low)):
            atoms[("same", v, v)] = self.full_two
            atoms[("same", v, "y" if v == "x" else "x")] = 0
            for place, told in enumerate(self.told):
                for atom in named(told, (v,)):
                    atoms[atom] = column(start + place, width)
        for place, name in enumerate(self.tie_names):
            atoms[("tie", name, "x", "y")] = column(2 * place, width)
            atoms[("tie", name, "y", "x")] = column(2 * place + 1, width)
        return atoms

    def row(self, bits, kind):
        """What a table of two has for a thing of this kind as x."""
        size = self.kinds * self.way_many
        return (bits >> (kind * size)) & all_bits(size)

    def way_bits(self, bits, kind, other):
        """What a table of two has for things of these kinds as x and y: a bit for each way."""
        return (bits >> ((kind * self.kinds + other) * self.way_many)) & all_bits(self.way_many)


def named(told, names):
    """The list of the atoms that tell this of one thing, whichever of its names stand in them."""
    if told[0] == "tie":
        return [told + (v, w) for v in names for w in names]
    return [told + (v,) for v in names]
