"""Worlds by number: the rows of worlds, and their places among those in which a saying holds."""

from pairsayings.counting import MOST_COUNTED, need_things
from pairsayings.errors import NoNumber, NoThings
from pairsayings.sayings import need_closed
from pairsayings.tables import has_bit
from pairsayings.values import is_within
from pairsayings.walks import Walk, all_places, place_width
from pairsayings.worlds import World, is_so


def world_row(world):
    """The row of a world: the tuple of flags that tell all its marks and ties, in the order of the tongue."""
    told = {name: had(members) for name, members in list(world.marks.items()) + list(world.ties.items())}
    row = []
    for place in all_places(world.tongue, world.things):
        row.extend([member in told[name] for name, member in told_at(world.tongue, place)])
    return tuple(row)


def had(members):
    """A dict to True from the members."""
    return {member: True for member in members}


def told_at(tongue, place):
    """The list of what the flags tell that a row has for the place: pairs of a name, and of a thing or a pair."""
    one, other = place
    if one == other:
        return [(name, one) for name in tongue.marks] + [(name, place) for name in tongue.ties]
    return [(name, pair) for name in tongue.ties for pair in ((one, other), (other, one))]


def world_of(tongue, things, row):
    """The world of the tongue with so many things that has the row."""
    told = {name: [] for name in tongue.marks + tongue.ties}
    at = 0
    for place in all_places(tongue, things):
        for name, member in told_at(tongue, place):
            if row[at]:
                told[name].append(member)
            at += 1
    marks = {name: told[name] for name in tongue.marks}
    return World(tongue, things, marks, {name: told[name] for name in tongue.ties})


def world_at(tongue, saying, things, number):
    """The world with this number among those with so many things in which the saying holds, ordered by rows."""
    need_closed(tongue, saying)
    need_things(things)
    walk = Walk(tongue, saying, things)
    if not is_within(number, 0, walk.whole() - 1):
        raise NoNumber()
    left = number
    row = []
    for place in all_places(tongue, things):
        told, left = found_in(walk.numbers(place), left)
        walk.tell(place, told)
        row.extend(flags_of(told, place_width(tongue, place)))
    return world_of(tongue, things, row)


def found_in(sizes, number):
    """The pair of the index of the heap in which this number is, and of its number there, with heaps of these sizes."""
    at = 0
    while number >= sizes[at]:
        number -= sizes[at]
        at += 1
    return at, number


def flags_of(number, width):
    """The list of so many flags that are the binary number, the first flag highest."""
    return [has_bit(number, width - 1 - place) for place in range(width)]


def number_of(flags):
    """The binary number that the flags are, the first flag highest."""
    number = 0
    for flag in flags:
        number = 2 * number + int(flag)
    return number


def world_number(world, saying):
    """The number of the world among those with as many things in which the saying holds; None if it does not."""
    need_closed(world.tongue, saying)
    if world.things > MOST_COUNTED:
        raise NoThings()
    if not is_so(world, saying, 0, 0):
        return None
    return worlds_ahead(Walk(world.tongue, saying, world.things), world)


def worlds_ahead(walk, world):
    """How many worlds of the walk, of which nothing is told yet, are ahead of this one of them."""
    row = world_row(world)
    ahead = 0
    at = 0
    for place in all_places(world.tongue, world.things):
        width = place_width(world.tongue, place)
        told = number_of(row[at:at + width])
        ahead += sum(walk.numbers(place)[:told])
        walk.tell(place, told)
        at += width
    return ahead
