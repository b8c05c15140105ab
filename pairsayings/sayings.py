"""Sayings of a tongue, and the names that are free in them."""

from pairsayings.errors import NoSaying, NotClosed

NAMES = ("x", "y")
MOST_TUPLES = 100
MOST_DEEP = 20
BINDERS = ("each", "some")
# What must stand behind the first word of a saying, place by place.
PLACES = {
    "true": (),
    "mark": ("mark", "name"),
    "tie": ("tie", "name", "name"),
    "same": ("name", "name"),
    "not": ("saying",),
    "and": ("saying", "saying"),
    "or": ("saying", "saying"),
    "each": ("name", "saying"),
    "some": ("name", "saying"),
}


def free(tongue, saying):
    """The tuple of the free names of a saying of the tongue; NoSaying() for anything else."""
    need_saying(tongue, saying)
    found = free_places(saying)
    return tuple([name for name in NAMES if name in found])


def need_saying(tongue, thing):
    """Raise NoSaying() unless the thing, any object, is a saying of the tongue."""
    if not is_saying(tongue, thing):
        raise NoSaying()


def need_closed(tongue, thing):
    """Raise NoSaying(), then NotClosed(), unless the thing, any object, is a closed saying of the tongue."""
    need_saying(tongue, thing)
    if free_places(thing):
        raise NotClosed()


def is_saying(tongue, thing):
    """Tell whether the thing, any object, is a saying of the tongue."""
    layer = [thing]
    tuples = 0
    deep = 0
    # Layer by layer, so that what is too great or too deep is left as soon as it shows.
    while layer:
        tuples += len(layer)
        deep += 1
        if tuples > MOST_TUPLES or deep > MOST_DEEP:
            return False
        if not all([has_shape(tongue, one) for one in layer]):
            return False
        layer = [inner for one in layer for inner in inner_sayings(one)]
    return True


def has_shape(tongue, thing):
    """Tell whether the thing, any object, is like a saying, whatever stands at its places for sayings."""
    if not isinstance(thing, tuple) or len(thing) == 0 or not isinstance(thing[0], str):
        return False
    places = PLACES.get(thing[0])
    if places is None or len(places) != len(thing) - 1:
        return False
    return all([fits(tongue, place, one) for place, one in zip(places, thing[1:])])


def fits(tongue, place, thing):
    """Tell whether the thing, any object, may stand at such a place; sayings are looked at elsewhere."""
    if place == "saying":
        return True
    if not isinstance(thing, str):
        return False
    if place == "mark":
        return thing in tongue.marks
    if place == "tie":
        return thing in tongue.ties
    return thing in NAMES


def at_places(saying, kind):
    """The list of what stands in a saying itself, not within others, at places of the kind."""
    return [one for place, one in zip(PLACES[saying[0]], saying[1:]) if place == kind]


def inner_sayings(saying):
    """The list of the sayings that stand directly in a saying."""
    return at_places(saying, "saying")


def free_places(saying):
    """The list of the names that stand free in a saying, each as often as it stands so."""
    found = at_places(saying, "name")
    for inner in inner_sayings(saying):
        found.extend(free_places(inner))
    if saying[0] in BINDERS:
        return [name for name in found if name != saying[1]]
    return found


def swapped(saying):
    """The saying, or what is built like one, with the names x and y exchanged everywhere."""
    return tuple([swapped_item(one) for one in saying])


def swapped_item(item):
    """What stands at a place of a saying, with the names exchanged; no mark or tie is called x or y."""
    if isinstance(item, tuple):
        return swapped(item)
    if item in NAMES:
        return "y" if item == "x" else "x"
    return item
