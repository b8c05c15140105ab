"""Worlds listed one by one, and sayings told in them by going through all things."""

import itertools
import random
from fractions import Fraction

from pairsayings.tongues import Tongue
from pairsayings.worlds import World

NONE = Tongue((), (), ())
MARKED = Tongue(("p",), (), ())
TWICE = Tongue(("p", "q"), (), ())
BARE = Tongue((), ("r",), ())
BOTH = Tongue(("p",), ("r",), ())
TIES = Tongue((), ("r", "s"), ())
MAPS = Tongue((), ("f",), ("f",))
MARKED_MAPS = Tongue(("p",), ("f",), ("f",))
TIED_MAPS = Tongue((), ("r", "f"), ("f",))
# The greatest sizes for which the worlds of a tongue are listed in good time.
LISTED = [(NONE, 4), (MARKED, 5), (TWICE, 3), (BARE, 3), (BOTH, 2), (TIES, 2), (MAPS, 4), (MARKED_MAPS, 3),
          (TIED_MAPS, 2)]


class Listed:
    """A world as sets: for each mark the things that have it, for each tie the pairs."""

    def __init__(self, tongue, things, marks, ties):
        self.tongue = tongue
        self.things = things
        self.marks = marks
        self.ties = ties

    def world(self):
        """The same as a World."""
        return World(self.tongue, self.things, {name: list(told) for name, told in self.marks.items()},
                     {name: list(told) for name, told in self.ties.items()})

    def weight(self, weights):
        """The product of the weights of all marks of things and of all ties between them."""
        product = Fraction(1)
        for name, told in [*self.marks.items(), *self.ties.items()]:
            product *= Fraction(*weights.get(name, (1, 1))) ** len(told)
        return product

    def tell(self, saying, x=None, y=None):
        """Tell whether a saying is so of two things."""
        word = saying[0]
        at = {"x": x, "y": y}
        if word == "true":
            return True
        if word == "mark":
            return at[saying[2]] in self.marks[saying[1]]
        if word == "tie":
            return (at[saying[2]], at[saying[3]]) in self.ties[saying[1]]
        if word == "same":
            return at[saying[1]] == at[saying[2]]
        if word == "not":
            return not self.tell(saying[1], x, y)
        if word == "and":
            return self.tell(saying[1], x, y) and self.tell(saying[2], x, y)
        if word == "or":
            return self.tell(saying[1], x, y) or self.tell(saying[2], x, y)
        every = [(one, y) if saying[1] == "x" else (x, one) for one in range(self.things)]
        if word == "each":
            return all(self.tell(saying[2], *pair) for pair in every)
        return any(self.tell(saying[2], *pair) for pair in every)

    def things_of(self, part):
        """How many things the part is so of."""
        return sum(self.tell(part, one) for one in range(self.things))

    def pairs_of(self, link):
        """Of how many pairs of things the link is so."""
        return sum(self.tell(link, *pair) for pair in itertools.product(range(self.things), repeat=2))


def subsets(members):
    """All sets of some of the members."""
    members = list(members)
    for many in range(len(members) + 1):
        for chosen in itertools.combinations(members, many):
            yield frozenset(chosen)


def all_worlds(tongue, things):
    """The list of all worlds of the tongue with so many things."""
    told = [list(subsets(range(things))) for _ in tongue.marks]
    for name in tongue.ties:
        if name in tongue.functions:
            told.append([frozenset(enumerate(ends)) for ends in itertools.product(range(things), repeat=things)])
        else:
            told.append(list(subsets(itertools.product(range(things), repeat=2))))
    many = len(tongue.marks)
    return [Listed(tongue, things, dict(zip(tongue.marks, chosen)), dict(zip(tongue.ties, chosen[many:])))
            for chosen in itertools.product(*told)]


def pair(number):
    """A Fraction as the package writes it."""
    number = Fraction(number)
    return (number.numerator, number.denominator)


def free_names(saying):
    """The names that are free in a saying."""
    if saying[0] in ("each", "some"):
        return [name for name in free_names(saying[2]) if name != saying[1]]
    found = [name for one in saying[1:] if isinstance(one, tuple) for name in free_names(one)]
    found += [one for one in saying[1:] if one in ("x", "y")]
    return sorted(set(found))


def places(saying):
    """How many inner parts a saying has, and how many closed ones that begin with "each" or "some"."""
    inner, closed = 0, 0
    if saying[0] in ("each", "some"):
        inner, closed = (1, 0) if free_names(saying) else (0, 1)
    for one in saying[1:]:
        if isinstance(one, tuple):
            inner, closed = inner + places(one)[0], closed + places(one)[1]
    return inner, closed


def load(tongue, *sayings):
    """The load of a call."""
    return (len(tongue.marks) + len(tongue.ties) + 2 * len(tongue.functions)
            + sum(places(saying)[0] for saying in sayings))


class Sayings:
    """Makes sayings of a tongue, always the same ones for a seed."""

    def __init__(self, tongue, seed):
        self.tongue = tongue
        self.random = random.Random(seed)

    def atom(self):
        v, w = self.random.choice("xy"), self.random.choice("xy")
        found = [("same", v, w)] + [("mark", name, v) for name in self.tongue.marks] * 3
        found += [("tie", name, v, w) for name in self.tongue.ties] * 4
        return ("true",) if self.random.random() < 0.05 else self.random.choice(found)

    def any(self, deep):
        """A saying that is at most so deep."""
        chance = self.random.random()
        if deep == 1 or chance < 0.1:
            return self.atom()
        if chance < 0.5:
            return (self.random.choice(["each", "some"]), self.random.choice("xy"), self.any(deep - 1))
        if chance < 0.65:
            return ("not", self.any(deep - 1))
        return (self.random.choice(["and", "or"]), self.any(deep - 1), self.any(deep - 1))

    def bound(self, saying, names):
        """The saying with "each" or "some" of those of these names that are free in it."""
        for name in names:
            if name in free_names(saying):
                saying = (self.random.choice(["each", "some"]), name, saying)
        return saying

    def closed(self, deep):
        """A saying without free names."""
        return self.bound(self.any(deep), self.random.choice(["xy", "yx"]))

    def part(self, deep):
        """A saying in which y is not free."""
        return self.bound(self.any(deep), "y")

    def weights(self):
        """Weights for some of the names, or none, or all."""
        names = [name for name in self.tongue.marks + self.tongue.ties if self.random.random() < 0.6]
        return {name: self.random.choice([(0, 1), (1, 2), (2, 3), (3, 1), (1, 1), (7, 5)]) for name in names}
