"""Worlds: things with marks and ties, and what is so in them."""

from pairsayings.errors import NoThing, NoWorld
from pairsayings.sayings import need_closed, need_saying
from pairsayings.shelves import Shelf, flat
from pairsayings.tables import all_bits, has_bit, table
from pairsayings.values import is_sequence, is_within
from pairsayings.views import add_shelf, world_views

MOST_THINGS = 300


def is_thing(thing, things):
    """Tell whether the thing, any object, is one of so many things."""
    return is_within(thing, 0, things - 1)


def is_pair(thing, things):
    """Tell whether the thing, any object, is a pair of two of so many things."""
    return isinstance(thing, tuple) and len(thing) == 2 and all([is_thing(one, things) for one in thing])


def has_keys(thing, names):
    """Tell whether the thing, any object, is a dict from just these names."""
    if not isinstance(thing, dict) or len(thing) != len(names):
        return False
    # Only a string is compared with the names: bytes beside strings can make Python warn.
    return all([isinstance(key, str) and key in names for key in thing])


def are_marked(thing, things):
    """Tell whether the thing, any object, is a sequence of unlike ones of so many things."""
    if not is_sequence(thing) or not all([is_thing(one, things) for one in thing]):
        return False
    return len(set(thing)) == len(thing)


def are_tied(thing, things):
    """Tell whether the thing, any object, is a sequence of unlike pairs of so many things."""
    if not is_sequence(thing) or not all([is_pair(one, things) for one in thing]):
        return False
    return len(set(thing)) == len(thing)


def leads_once(pairs, things):
    """Tell whether each of so many things is the first one of just one of the pairs."""
    return len(pairs) == things and len({pair[0] for pair in pairs}) == things


def are_marks(tongue, things, thing):
    """Tell whether the thing, any object, tells the marks of a world."""
    if not has_keys(thing, tongue.marks):
        return False
    return all([are_marked(thing[name], things) for name in tongue.marks])


def are_ties(tongue, things, thing):
    """Tell whether the thing, any object, tells the ties of a world."""
    if not has_keys(thing, tongue.ties):
        return False
    if not all([are_tied(thing[name], things) for name in tongue.ties]):
        return False
    return all([leads_once(thing[name], things) for name in tongue.functions])


class World:
    """A world of a tongue: which things have its marks, and from which to which its ties lead."""

    def __init__(self, tongue, things, marks, ties):
        if not is_within(things, 1, MOST_THINGS):
            raise NoWorld("things")
        if not are_marks(tongue, things, marks):
            raise NoWorld("marks")
        if not are_ties(tongue, things, ties):
            raise NoWorld("ties")
        self.tongue = tongue
        self.things = things
        self._marks = {name: tuple(sorted(marks[name])) for name in tongue.marks}
        self._ties = {name: tuple(sorted(ties[name])) for name in tongue.ties}

    @property
    def marks(self):
        """A new dict from the marks to the ascending tuples of the things that have them."""
        return {name: self._marks[name] for name in self._marks}

    @property
    def ties(self):
        """A new dict from the ties to the ascending tuples of the pairs from and to which they lead."""
        return {name: self._ties[name] for name in self._ties}

    def __eq__(self, other):
        return (isinstance(other, World) and self.tongue == other.tongue and self.things == other.things
                and self._marks == other._marks and self._ties == other._ties)


def holds(world, saying):
    """Tell whether a closed saying is so in the world."""
    need_closed(world.tongue, saying)
    return is_so(world, saying, 0, 0)


def holds_at(world, saying, x, y):
    """Tell whether a saying is so of the things x and y of the world as the names x and y."""
    need_saying(world.tongue, saying)
    if not is_thing(x, world.things) or not is_thing(y, world.things):
        raise NoThing()
    return is_so(world, saying, x, y)


def is_so(world, saying, x, y):
    """Tell whether a saying is so of two things; each part of it is told once for each thing."""
    shelf = Shelf()
    formula = flat(saying, shelf)
    views = full_views(world, shelf)
    return has_bit(table(formula, views[x], all_bits(world.things)), y)


def full_views(world, shelf):
    """The list of the views of all things as x, also of what stands on the shelf."""
    views = world_views(world)
    add_shelf(views, shelf)
    return views
