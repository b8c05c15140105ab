"""Shelves: sayings made flat, with what begins with "each" or "some" in them put aside under a number.

A formula is built like a saying, but has ("part", number, v) and ("closed", number) where the saying has
an "each" or a "some" with one free name v or with none.
"""

from pairsayings.sayings import BINDERS, free_places, inner_sayings, swapped


class Shelf:
    """What was put aside: entry number n is ("part", body) or ("closed", body), with formulas as bodies.

    The part is so of a thing as x if its body is so for some thing as y; the closed one is so if its body,
    which says nothing of x, is so for some thing as y. Bodies name only entries ahead of their own.
    """

    def __init__(self):
        self.entries = []

    def number(self, entry):
        """The number of the entry; one that stands at several places is put aside once."""
        if entry not in self.entries:
            self.entries.append(entry)
        return self.entries.index(entry)

    def numbers(self, word):
        """The list of the numbers of the entries with this word, "part" or "closed"."""
        return [number for number, entry in enumerate(self.entries) if entry[0] == word]


def denied(formula):
    """The formula that is so where this one is not."""
    return formula[1] if formula[0] == "not" else ("not", formula)


def flat(saying, shelf):
    """The formula of a saying; the shelf takes what is put aside."""
    if saying[0] in BINDERS:
        return put_aside(saying, shelf)
    if saying[0] == "not":
        return denied(flat(saying[1], shelf))
    inner = [flat(one, shelf) for one in inner_sayings(saying)]
    return (saying[0], *inner) if inner else saying


def put_aside(saying, shelf):
    """The formula of a saying that begins with "each" or "some": it is so of each if it is not so of some not."""
    word, name, inner = saying
    body = flat(inner, shelf)
    if word == "each":
        body = denied(body)
    if name == "x":
        body = swapped(body)
    others = free_places(saying)
    if others:
        formula = ("part", shelf.number(("part", body)), others[0])
    else:
        formula = ("closed", shelf.number(("closed", body)))
    return denied(formula) if word == "each" else formula
