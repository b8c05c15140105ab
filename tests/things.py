"""Objects and sayings that several tests use."""

from pairsayings.errors import NoSaying, NoTongue
from pairsayings.tongues import Tongue
from pairsayings.worlds import World

TRUE = ("true",)


def nested(deep, wrap, inmost=0):
    """An object with so many others around the inmost one."""
    thing = inmost
    for _ in range(deep):
        thing = wrap(thing)
    return thing


def odd_objects():
    """Objects of many kinds: none is a name, a name of a thing, a sequence of names or a saying."""
    kinds = [
        None, True, False, 0, 1, -1, 2, 2 ** 70, 10 ** 5000,
        "", "(true)", "true", "not", "and", "or", "each", "some", "Red", "r d", "redredr", "a1", "a-b", "_a", "0",
        b"", b"x", b"red", b"true", bytearray(b"x"), memoryview(b"x"),
        range(3), slice(1), Ellipsis, NotImplemented, object(), int, str, tuple, len, iter([]), {}.items(),
        {"x": "y"}, {"red": "to"}, {0: "true"}, {"true": ()},
    ]
    made = [NoSaying(), NoTongue("marks"), NoTongue, Tongue((), (), ()), Tongue(("red",), ("to",), ()), Tongue,
            World(Tongue((), (), ()), 1, {}, {}), World(Tongue(("red",), ("to",), ()), 1, {"red": [0]}, {"to": []}),
            World]
    deep = [nested(40, lambda one: [one]), nested(40, lambda one: (one,)), nested(40, lambda one: {"x": one}),
            nested(39, lambda one: ("not", one), TRUE)]
    wide = [list(range(9999)), tuple(range(9999)), ["red"] * 9999, (TRUE,) * 9999]
    return kinds + made + deep + wide


def of_size(many):
    """A saying without free names of just so many tuples, not deep."""
    if many == 1:
        return TRUE
    if many == 2:
        return ("not", TRUE)
    left = (many - 1) // 2
    return ("and", of_size(left), of_size(many - 1 - left))


def tuples_in(saying):
    """How many tuples a saying has, each counted as often as it stands."""
    return 1 + sum(tuples_in(one) for one in saying[1:] if isinstance(one, tuple))


def depth_of(saying):
    """How deep a saying is."""
    return 1 + max([depth_of(one) for one in saying[1:] if isinstance(one, tuple)], default=0)
