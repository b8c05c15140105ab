"""Sizes: how many things the worlds can have in which a saying holds."""

from pairsayings.copies import are_like
from pairsayings.sayings import need_closed
from pairsayings.searches import Search
from pairsayings.tongues import need_no_functions
from pairsayings.worlds import World, is_so, is_thing

HELD = (1,)


def sizes(tongue, saying):
    """What sizes the worlds of a saying have: ("none",), ("few", list), or ("from", world, one, other)."""
    need_no_functions(tongue)
    need_closed(tongue, saying)
    search = Search(tongue, [saying])
    builder = search.builder(HELD, True)
    if builder is not None:
        return ("from", builder.world(tongue), *builder.likes())
    few = search.few_sizes(HELD)
    return ("few", few) if few else ("none",)


def check_from(tongue, saying, thing):
    """Tell whether the thing, any object, is a result of sizes with a world and two like things."""
    need_no_functions(tongue)
    need_closed(tongue, saying)
    if not isinstance(thing, tuple) or len(thing) != 4:
        return False
    word, world, one, other = thing
    if not isinstance(word, str) or word != "from" or not is_world(tongue, world):
        return False
    if not is_thing(one, world.things) or not is_thing(other, world.things) or one == other:
        return False
    return is_so(world, saying, 0, 0) and are_like(world, saying, one, other)


def is_world(tongue, thing):
    """Tell whether the thing, any object, is a world of the tongue."""
    return isinstance(thing, World) and thing.tongue == tongue
