"""Scenes: sayings made flat on one shelf, and what their parts ask of things.

A case is a way in which the closed entries on the shelf are so or not so; then what stands within an entry is
known, and each formula without free names, too.
"""

from pairsayings.frames import Frame
from pairsayings.kinds import Ask
from pairsayings.sayings import swapped
from pairsayings.shelves import Shelf, flat
from pairsayings.tables import has_bit, table


def truths_of(numbers, bits):
    """A dict to 1 or 0 from the closed entries, as the bits tell, and from what is always so."""
    truths = {("closed", number): int(has_bit(bits, at)) for at, number in enumerate(numbers)}
    truths[("true",)] = 1
    return truths


def told_atoms(atoms, truths, full):
    """The atoms of a frame, and what is so in all of its cases or in none."""
    told = {atom: atoms[atom] for atom in atoms}
    for atom in truths:
        told[atom] = full * truths[atom]
    return told


class Scene:
    """Sayings of a tongue: their formulas, the shelf of what was put aside, and the frame of all kinds."""

    def __init__(self, tongue, sayings):
        self.shelf = Shelf()
        self.formulas = [flat(saying, self.shelf) for saying in sayings]
        self.function_ties = tongue.functions
        self.frame = Frame(tongue, self.shelf)

    def truths(self):
        """The list of all ways in which the closed entries are so (1) or not so (0)."""
        numbers = self.shelf.numbers("closed")
        return [truths_of(numbers, bits) for bits in range(1 << len(numbers))]


class Case:
    """The worlds in which the closed entries of a scene are so as the truths tell."""

    def __init__(self, scene, truths):
        frame = scene.frame
        self.one = told_atoms(frame.one, truths, frame.full_one)
        self.two = told_atoms(frame.two, truths, frame.full_two)
        self.frame = frame
        self.asks = self.all_asks(scene)
        # Pairs of the kinds of which a closed entry tells that there is some thing, and of whether it is so.
        self.told_of = [(table(scene.shelf.entries[number][1], self.one, frame.full_one),
                         truths[("closed", number)] == 1) for number in scene.shelf.numbers("closed")]

    def all_asks(self, scene):
        """The list of what things are asked for: by the parts on the shelf, and by a function."""
        found = []
        for number in self.frame.parts:
            found.append(self.ask_for(scene.shelf.entries[number][1], self.one[("part", number, "x")]))
        for name in scene.function_ties:
            found.append(self.ask_for(("tie", name, "x", "y"), self.frame.full_one))
        return found

    def ask_for(self, body, asked):
        """The ask for a thing as y such that the body is so."""
        full = self.frame.full_two
        return Ask(table(body, self.two, full), table(swapped(body), self.two, full),
                   table(body, self.one, self.frame.full_one), asked)

    def possible(self):
        """The kinds, as bits, of which a thing does not meet itself what none may meet."""
        full = self.frame.full_one
        kinds = full
        for ask in self.asks:
            kinds &= full ^ ask.barred(full)
        return kinds
