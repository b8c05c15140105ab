"""What follows from sayings, in worlds of any size, and worlds that part them."""

from pairsayings.errors import NoGiven
from pairsayings.sayings import need_closed
from pairsayings.searches import Search
from pairsayings.sizes import is_world
from pairsayings.tables import bits_of, has_bit
from pairsayings.tongues import need_no_functions
from pairsayings.values import is_sequence
from pairsayings.worlds import is_so

MOST_GIVEN = 5


def need_both(tongue, one, other):
    """Raise the errors of parting unless both, any objects, are closed sayings of a tongue without functions."""
    need_no_functions(tongue)
    need_closed(tongue, one)
    need_closed(tongue, other)


def need_given(tongue, given, saying):
    """Raise the errors of follows unless the arguments, any objects, are as told."""
    need_no_functions(tongue)
    if not is_sequence(given) or len(given) > MOST_GIVEN:
        raise NoGiven()
    for one in given:
        need_closed(tongue, one)
    need_closed(tongue, saying)


def parting(tongue, one, other):
    """A world in which just one of two closed sayings holds, behind its word; None if they hold in the same worlds."""
    need_both(tongue, one, other)
    search = Search(tongue, [one, other])
    for word, pattern in (("one", (1, 0)), ("other", (0, 1))):
        world = search.world(pattern)
        if world is not None:
            return (word, world)
    return None


def follows(tongue, given, saying):
    """None if the saying holds wherever all given ones hold, otherwise a world in which these hold and it does not."""
    need_given(tongue, given, saying)
    return Search(tongue, [*given, saying]).world((1,) * len(given) + (0,))


def least_given(tongue, given, saying):
    """The ascending list of the least sets of given sayings, as tuples of indexes, from which the saying follows."""
    need_given(tongue, given, saying)
    patterns = Search(tongue, [*given, saying]).patterns()
    # The given sayings that hold, as bits, where the saying does not.
    against = [bits_of([at for at, held in enumerate(pattern[:-1]) if held == 1]) for pattern in patterns
               if pattern[-1] == 0]
    enough = [bits for bits in range(1 << len(given)) if not any([bits & held == bits for held in against])]
    least = [bits for bits in enough if not any([bits & one == one for one in enough if one != bits])]
    return sorted([tuple([at for at in range(len(given)) if has_bit(bits, at)]) for bits in least])


def check_parting(tongue, one, other, thing):
    """Tell whether the thing, any object, is a result of parting with a world."""
    need_both(tongue, one, other)
    if not isinstance(thing, tuple) or len(thing) != 2:
        return False
    word, world = thing
    if not isinstance(word, str) or word not in ("one", "other") or not is_world(tongue, world):
        return False
    return is_so(world, one, 0, 0) == (word == "one") and is_so(world, other, 0, 0) == (word == "other")


def check_follows(tongue, given, saying, thing):
    """Tell whether the thing, any object, is a result of follows with a world."""
    need_given(tongue, given, saying)
    if not is_world(tongue, thing):
        return False
    return all([is_so(thing, one, 0, 0) for one in given]) and not is_so(thing, saying, 0, 0)
