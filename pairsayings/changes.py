"""Sayings changed, and worlds of some of the things of a world."""

from pairsayings.errors import NoMark, NoThings, NoTie, OtherTongue
from pairsayings.sayings import BINDERS, need_saying, swapped
from pairsayings.tongues import Tongue, need_no_functions
from pairsayings.worlds import World

# What a word becomes when a "not" is led inward through it.
DENIED = {"and": "or", "or": "and", "each": "some", "some": "each"}


def exchanged(tongue, saying):
    """The saying with x and y exchanged everywhere."""
    need_saying(tongue, saying)
    return swapped(saying)


def inward(tongue, saying):
    """The saying with each "not" led inward as far as can be."""
    need_saying(tongue, saying)
    return led_inward(saying, False)


def led_inward(saying, denied):
    """The same of what is known to be a saying, or of its "not" if it is denied."""
    word = saying[0]
    if word == "not":
        return led_inward(saying[1], not denied)
    if word not in DENIED:
        return ("not", saying) if denied else saying
    items = [led_inward(item, denied) if isinstance(item, tuple) else item for item in saying[1:]]
    return (DENIED[word] if denied else word, *items)


def turned(tongue, saying, tie):
    """The saying in which this tie leads the other way about."""
    need_saying(tongue, saying)
    if not isinstance(tie, str) or tie not in tongue.ties:
        raise NoTie()
    return turned_within(saying, tie)


def turned_within(saying, tie):
    """The same of what is known to be a saying."""
    if saying[0] == "tie":
        return ("tie", tie, saying[3], saying[2]) if saying[1] == tie else saying
    return tuple([turned_within(item, tie) if isinstance(item, tuple) else item for item in saying])


def renamed(tongue, saying, other):
    """The saying with the names of the other tongue at the places of those of this one."""
    need_saying(tongue, saying)
    if not isinstance(other, Tongue) or len(other.marks) != len(tongue.marks) or len(other.ties) != len(tongue.ties):
        raise OtherTongue()
    return renamed_within(saying, dict(zip(tongue.marks + tongue.ties, other.marks + other.ties)))


def renamed_within(saying, names):
    """The same of what is known to be a saying, by a dict from names to names."""
    if saying[0] in ("mark", "tie"):
        return (saying[0], names[saying[1]], *saying[2:])
    return tuple([renamed_within(item, names) if isinstance(item, tuple) else item for item in saying])


def need_mark(tongue, thing):
    """Raise NoMark() unless the thing, any object, is a mark of the tongue."""
    if not isinstance(thing, str) or thing not in tongue.marks:
        raise NoMark()


def alone(tongue, saying, mark):
    """The saying about the things with a mark alone."""
    need_saying(tongue, saying)
    need_mark(tongue, mark)
    return told_alone(saying, mark)


def told_alone(saying, mark):
    """The same of what is known to be a saying."""
    items = tuple([told_alone(item, mark) if isinstance(item, tuple) else item for item in saying])
    if saying[0] not in BINDERS:
        return items
    word, name, inner = items
    marked = ("mark", mark, name)
    return (word, name, ("or", ("not", marked), inner) if word == "each" else ("and", marked, inner))


def kept(world, mark):
    """The world of the things with the mark alone, in their order."""
    need_no_functions(world.tongue)
    need_mark(world.tongue, mark)
    left = world.marks[mark]
    if not left:
        raise NoThings()
    places = {thing: place for place, thing in enumerate(left)}
    marks = {name: [places[thing] for thing in told if thing in places] for name, told in world.marks.items()}
    ties = {name: [(places[one], places[other]) for one, other in told if one in places and other in places]
            for name, told in world.ties.items()}
    return World(world.tongue, len(left), marks, ties)
