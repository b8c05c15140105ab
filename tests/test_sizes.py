"""Point 14: which sizes the worlds of a saying can have."""

import inspect
import itertools
import random
import unittest

from pairsayings.copies import grown, like
from pairsayings.counting import count
from pairsayings.errors import HasFunctions, NoSaying, NotClosed
from pairsayings.sizes import check_from, sizes
from pairsayings.tongues import Tongue
from pairsayings.worlds import World, holds
from tests.cases import Case
from tests.listed import BARE, BOTH, MAPS, MARKED, NONE, TIED_MAPS, TIES, TWICE, Sayings, load, places
from tests.things import TRUE, odd_objects
from tests.words import (F_XY, P_X, P_Y, Q_X, Q_Y, R_XX, R_XY, R_YX, SAME, S_XY, S_YX, both, each, either, no, out,
                         some)

NEVER = no(TRUE)
TRIPLE = Tongue(("p", "q", "o"), (), ())
O_X, O_Y = ("mark", "o", "x"), ("mark", "o", "y")
R_YY = ("tie", "r", "y", "y")
ONE_WAY = both(R_XY, no(R_YX))
OTHER = no(SAME)


def alike(*pairs):
    """What is told of x and y in each of the pairs is so of both or of none."""
    return both(*[either(both(one, other), both(no(one), no(other))) for one, other in pairs])


def just_one(of_x, of_y):
    """Just one thing is such: one inner part."""
    return some("x", both(of_x, each("y", either(no(of_y), SAME))))


def at_most_one(of_x, of_y):
    return each("xy", either(no(both(of_x, of_y)), SAME))


P_ALIKE, Q_ALIKE, R_ALIKE = alike((P_X, P_Y)), alike((Q_X, Q_Y)), alike((R_XX, R_YY))
LONE_KINDS = each("xy", either(no(both(P_ALIKE, R_ALIKE)), SAME))
NONE_AT_ALL = [
    (NONE, NEVER), (NONE, some("x", no(("same", "x", "x")))), (NONE, both(each("xy", SAME), some("xy", OTHER))),
    (MARKED, both(some("x", P_X), each("x", no(P_X)))), (BARE, both(each("xy", R_XY), some("x", no(R_XX)))),
    (BARE, out(both(SAME, no(SAME)))), (TWICE, both(some("x", both(P_X, Q_X)), each("x", either(no(P_X), no(Q_X))))),
    # Each thing wants another one that is marked otherwise, but all are marked alike.
    (MARKED, both(out(both(P_X, no(P_Y))), each("x", P_X))), (TRIPLE, out(both(P_X, no(P_Y), OTHER))),
    # Marked things want unmarked ones, and these want what none can be.
    (MARKED, both(some("x", P_X), each("x", either(no(P_X), some("y", no(P_Y)))), each("x", either(P_X, no(TRUE))))),
    # Each thing leads on to one that does not lead back, and all ties lead both ways.
    (BARE, both(out(ONE_WAY), each("xy", either(no(R_XY), R_YX)))),
    # There is one thing alone, and it wants another one.
    (BARE, both(some("x", each("y", SAME)), out(both(R_XY, OTHER)))),
    # Each two things are tied one way alone, and each thing wants a tie both ways.
    (BARE, both(each("xy", no(both(R_XY, R_YX))), out(both(R_XY, R_YX)))),
    # Just one thing is marked; all others want a marked one of their own, one that leads to them alone.
    (BOTH, both(each("xy", either(no(P_X), either(no(P_Y), SAME))),
                each("x", both(no(P_X), some("y", both(P_Y, R_XY)))))),
    # Two at most, and each wants a one-way tie.
    (BOTH, both(at_most_one(P_X, P_Y), each("x", both(P_X, some("y", ONE_WAY))))),
    # Of two one has a way out, but both want it.
    (BARE, both(each("xy", either(no(R_ALIKE), SAME)), out(ONE_WAY))),
    # Two kings: the tie between them cannot lead one way alone for both.
    (TIES, both(each("xy", either(no(R_ALIKE), SAME)), out(both(S_XY, no(S_YX))))),
]
FEW = [
    (NONE, some("x", each("y", SAME)), [1]), (NONE, each("xy", SAME), [1]),
    (MARKED, each("xy", either(no(P_ALIKE), SAME)), [1, 2]), (MARKED, both(each("xy", P_ALIKE), each("xy", SAME)), [1]),
    (MARKED, both(each("xy", either(no(P_ALIKE), SAME)), some("x", P_X), some("x", no(P_X))), [2]),
    (MARKED, both(each("xy", either(no(P_ALIKE), SAME)), out(OTHER)), [2]),
    (TWICE, each("xy", either(no(both(P_ALIKE, Q_ALIKE)), SAME)), [1, 2, 3, 4]),
    (TWICE, both(each("xy", either(no(both(P_ALIKE, Q_ALIKE)), SAME)), some("x", both(P_X, Q_X)), out(OTHER)),
     [2, 3, 4]),
    (TRIPLE, each("xy", either(no(both(P_ALIKE, Q_ALIKE, alike((O_X, O_Y)))), SAME)), list(range(1, 9))),
    (TRIPLE, both(each("xy", either(no(both(P_ALIKE, Q_ALIKE, alike((O_X, O_Y)))), SAME)), some("x", both(P_X, Q_X)),
                  some("x", both(O_X, no(Q_X)))), list(range(2, 9))),
    (BARE, each("xy", either(no(R_ALIKE), SAME)), [1, 2]), (BARE, each("xy", both(R_XY, SAME)), [1]),
    (BOTH, both(LONE_KINDS, some("x", both(P_X, R_XX))), [1, 2, 3, 4]),
    # Each of at most four things has another one that it leads to one way alone.
    (BOTH, both(LONE_KINDS, out(ONE_WAY)), [3, 4]), (BOTH, both(LONE_KINDS, out(both(ONE_WAY, P_Y))), []),
    (BOTH, both(LONE_KINDS, out(both(R_XY, R_YX, OTHER))), [2, 3, 4]),
    (BOTH, both(LONE_KINDS, each("x", either(P_X, some("y", both(ONE_WAY, P_Y)))), some("x", no(P_X))), [2, 3, 4]),
    (TIES, both(each("xy", either(no(both(R_ALIKE, alike((("tie", "s", "x", "x"), ("tie", "s", "y", "y"))))), SAME)),
                out(both(ONE_WAY, S_YX))), [3, 4]),
]
# How many things a world has at least in which two of them are like.
FROM = [
    (NONE, TRUE, 2), (NONE, some("xy", OTHER), 2), (NONE, out(OTHER), 2), (MARKED, some("x", P_X), 2),
    (MARKED, both(some("x", P_X), some("x", no(P_X))), 3), (MARKED, out(both(P_Y, OTHER)), 2),
    (MARKED, just_one(P_X, P_Y), 3), (BARE, out(R_XY), 2), (BARE, out(both(R_XY, OTHER)), 2),
    (BARE, out(both(R_XY, R_YX, OTHER)), 2), (BARE, out(ONE_WAY), 3), (BARE, both(out(ONE_WAY), each("x", R_XX)), 3),
    (BARE, both(out(R_XY), out(no(R_XY))), 2),
    (BARE, both(out(ONE_WAY), each("xy", either(SAME, either(R_XY, R_YX)))), 3),
    (BARE, each("xy", either(SAME, both(either(R_XY, R_YX), no(both(R_XY, R_YX))))), 2),
    (BOTH, both(just_one(P_X, P_Y), out(both(R_XY, OTHER))), 3),
    # Just one marked thing that wants a court: one to lead to, to which all others lead.
    (BOTH, both(some("x", both(P_X, each("y", either(no(P_Y), SAME)))), out(ONE_WAY)), 4),
    (BOTH, both(just_one(P_X, P_Y), each("x", either(P_X, some("y", both(P_Y, R_XY)))), some("x", no(P_X))), 3),
    # There can be two marked things at most, that want a tie one way alone to each other: so there is none.
    (BOTH, both(each("xy", either(no(both(P_X, P_Y, R_ALIKE)), SAME)),
                each("x", either(no(P_X), some("y", both(P_Y, ONE_WAY))))), 2),
    (TIES, both(out(both(R_XY, no(S_XY), OTHER)), out(both(S_XY, no(R_XY), OTHER))), 3),
    (TIES, both(out(ONE_WAY), out(both(S_XY, no(S_YX)))), 3),
    (TRIPLE, out(either(both(P_X, no(P_Y)), both(no(P_X), P_Y))), 3),
    (TWICE, both(out(either(both(P_X, no(P_Y)), both(no(P_X), P_Y))),
                 out(either(both(Q_X, no(Q_Y)), both(no(Q_X), Q_Y)))), 3),
    (TRIPLE, both(some("x", both(P_X, Q_X)), some("x", both(P_X, no(Q_X))), some("x", both(no(P_X), O_X))), 4),
]


class SizesCase(Case):
    def check(self, tongue, saying, most):
        """Check what is told of the sizes against how many worlds there are up to so many things."""
        found = self.tell_sizes(tongue, saying)
        counted = [things for things in range(1, most + 1) if count(tongue, saying, things) > 0]
        if found[0] == "from":
            least = found[1].things
            self.assertTrue(set(range(least, most + 1)) <= set(counted), saying)
        else:
            few = found[1] if found[0] == "few" else []
            self.assertEqual([things for things in few if things <= most], counted, (tongue.marks, tongue.ties, saying))
        return found

    def tell_sizes(self, tongue, saying):
        """What is told of the sizes, looked at."""
        found = sizes(tongue, saying)
        self.assertIs(type(found), tuple)
        self.assertEqual(len(found), {"none": 1, "few": 2, "from": 4}[found[0]])
        if found[0] == "few":
            self.assertIs(type(found[1]), list)
            self.assertEqual(found[1], sorted(set(found[1])))
            self.assertTrue(found[1] and all(type(one) is int for one in found[1]))
        if found[0] == "from":
            _, world, one, other = found
            self.assertEqual(world.tongue, tongue)
            self.assertLessEqual(world.things, 100)
            self.assertTrue(holds(world, saying) and like(world, saying, one, other) and one != other)
            self.assertIs(check_from(tongue, saying, found), True)
        return found


class TestKnown(SizesCase):
    def test_the_interface(self):
        for function, names in ((sizes, ["tongue", "saying"]), (check_from, ["tongue", "saying", "thing"])):
            self.assertEqual(function.__module__, "pairsayings.sizes")
            self.assertEqual(list(inspect.signature(function).parameters), names)

    def test_examples_of_the_document(self):
        lone = ("some", "x", ("each", "y", ("same", "x", "y")))
        found = sizes(BARE, lone), sizes(BARE, ("some", "x", ("not", ("same", "x", "x"))))
        self.assertEqual(found, (("few", [1]), ("none",)))
        two = World(BARE, 2, {}, {"r": [(0, 1), (1, 0)]})
        other = ("each", "x", ("some", "y", ("and", ("tie", "r", "x", "y"), ("not", ("same", "x", "y")))))
        found = check_from(BARE, other, ("from", two, 0, 1)), check_from(BARE, other, ("from", two, 1, 1))
        self.assertEqual(found, (True, False))

    def test_within_the_bounds(self):
        for tongue, saying, *_ in NONE_AT_ALL + FEW + FROM:
            self.assertLessEqual(load(tongue, saying), 4)
            self.assertLessEqual(places(saying)[0], 2)
            self.assertLessEqual(places(saying)[1], 4, saying)

    def test_none(self):
        for tongue, saying in NONE_AT_ALL:
            self.assertEqual(self.tell(sizes, tongue, saying), ("none",), saying)

    def test_few(self):
        for tongue, saying, few in FEW:
            self.assertEqual(self.tell(sizes, tongue, saying), ("few", few) if few else ("none",), saying)

    def test_from(self):
        for tongue, saying, least in FROM:
            found = self.tell_sizes(tongue, saying)
            self.assertEqual(found[0], "from", saying)
            self.assertGreaterEqual(found[1].things, least)
            self.assertEqual(self.tell(sizes, tongue, saying), found)
            for things in range(found[1].things, found[1].things + 3):
                self.assertTrue(holds(grown(found[1], saying, found[2], found[3], things), saying))

    def test_the_list_is_new_each_time(self):
        found = sizes(TWICE, FEW[6][1])
        found[1].append(7)
        found[1][0] = None
        self.assertEqual(sizes(TWICE, FEW[6][1]), ("few", [1, 2, 3, 4]))

    def test_the_same_written_otherwise(self):
        for tongue, saying, *_ in NONE_AT_ALL + FEW + FROM:
            twice = no(no(saying))
            found, same = sizes(tongue, saying), sizes(tongue, twice)
            self.assertEqual(found[0], same[0])
            if found[0] == "few":
                self.assertEqual(found, same)

    def test_a_saying_and_the_denied_one(self):
        for tongue, saying, *_ in NONE_AT_ALL + FEW + FROM:
            found, denied = self.tell_sizes(tongue, saying), self.tell_sizes(tongue, no(saying))
            if found[0] != "from":
                self.assertEqual(denied[0], "from", saying)
                # Each size in which the saying holds nowhere is one of the denied one.
                few = found[1] if found[0] == "few" else []
                for things in range(1, 5):
                    if things not in few:
                        self.assertGreater(count(tongue, no(saying), things), 0)


class TestAgainstCounting(SizesCase):
    def test_known_ones(self):
        for tongue, saying, *_ in NONE_AT_ALL + FEW + FROM:
            self.check(tongue, saying, [20, 20, 10, 7, 5][load(tongue, saying)])

    def test_many_sayings(self):
        tongues = [NONE, MARKED, TWICE, BARE, BOTH, TIES, TRIPLE, Tongue(("p", "q"), ("r",), ()),
                   Tongue(("p",), ("r", "s"), ())]
        kinds = {}
        for tongue in tongues:
            made = Sayings(tongue, 60)
            for _ in range(150):
                saying = made.closed(made.random.randint(2, 6))
                inner, closed = places(saying)
                if inner <= 2 and closed <= 4 and load(tongue, saying) <= 4:
                    found = self.check(tongue, saying, [12, 12, 8, 6, 4][load(tongue, saying)])
                    kinds[found[0]] = kinds.get(found[0], 0) + 1
        self.assertTrue(min(kinds.values()) > 10 and len(kinds) == 3, kinds)

    def test_many_wishes_with_kings(self):
        """Sayings that let few things of a kind, and let things wish for others."""
        kinds = {}
        for tongue in (MARKED, TWICE, BARE, BOTH, TIES, TRIPLE):
            made = Wishes(tongue, 61)
            for _ in range(120):
                saying = made.saying()
                if load(tongue, saying) <= 4 and places(saying)[0] <= 2 and places(saying)[1] <= 4:
                    found = self.check(tongue, saying, [12, 12, 9, 7, 5][load(tongue, saying)])
                    kinds[str(found[:1] + tuple(found[1:2]) if found[0] == "few" else found[0])] = True
        self.assertGreater(len(kinds), 6)


class Wishes:
    """Makes sayings of things that are alone of their kind, and wish for others."""

    def __init__(self, tongue, seed):
        self.tongue = tongue
        self.random = random.Random(seed)
        self.told = [(("mark", name, "x"), ("mark", name, "y")) for name in tongue.marks]
        self.told += [(("tie", name, "x", "x"), ("tie", name, "y", "y")) for name in tongue.ties]

    def some_of(self, sayings, chance):
        return [saying for saying in sayings if self.random.random() < chance]

    def denied_or_not(self, saying):
        return self.random.choice([saying, no(saying)])

    def alone(self):
        """Things of a kind that are one and the same."""
        conditions = self.some_of([alike(pair) for pair in self.told], 0.7)
        conditions += self.some_of([both(*pair) for pair in self.told], 0.2)
        for name in self.tongue.ties:
            conditions += self.some_of([("tie", name, "x", "y"), no(("tie", name, "y", "x"))], 0.15)
        return each("xy", either(no(both(TRUE, *conditions)), SAME))

    def wish(self):
        """Things wish for another one."""
        wanted = self.some_of([OTHER], 0.7) + self.some_of([self.denied_or_not(other) for _, other in self.told], 0.3)
        for name in self.tongue.ties:
            on, back = ("tie", name, "x", "y"), ("tie", name, "y", "x")
            wanted += self.some_of([both(on, no(back))], 0.5) or self.some_of([on, back], 0.3)
        wish = some("y", both(TRUE, *wanted))
        if self.random.random() < 0.5:
            wish = either(self.denied_or_not(self.random.choice(self.told)[0]), wish)
        return (self.random.choice(["each", "each", "some"]), "x", wish)

    def saying(self):
        parts = [self.alone()] + self.some_of([self.wish()], 0.8)
        parts += [("some", "x", self.denied_or_not(self.random.choice(self.told)[0]))
                  for _ in range(self.random.choice([0, 0, 1, 2]))]
        self.random.shuffle(parts)
        return both(*parts)


class TestCheckFrom(SizesCase):
    SAYING = out(both(R_XY, OTHER))

    def setUp(self):
        self.world = World(BARE, 3, {}, {"r": [(0, 1), (1, 0), (2, 0), (2, 2)]})

    def refuse_thing(self, thing):
        self.assertIs(self.tell(check_from, BARE, self.SAYING, thing), False)

    def test_right_ones(self):
        for one, other in [(0, 1), (1, 0)]:
            self.assertIs(self.tell(check_from, BARE, self.SAYING, ("from", self.world, one, other)), True)
        great = grown(self.world, self.SAYING, 0, 1, 100)
        for one, other in itertools.permutations([0, 1, 3, 99], 2):
            self.assertIs(check_from(BARE, self.SAYING, ("from", great, one, other)), True)
        self.assertIs(check_from(NONE, TRUE, ("from", World(NONE, 2, {}, {}), 1, 0)), True)
        self.assertIs(check_from(Tongue([], ["r"], []), self.SAYING, ("from", self.world, 0, 1)), True)

    def test_other_words(self):
        for word in ["few", "none", "From", "", "one", None, 0, True, b"from", ("from",), ["from"], {"from": 1}]:
            self.refuse_thing((word, self.world, 0, 1))

    def test_other_things(self):
        wrong = [-1, 3, 2 ** 70, True, False, None, "0", b"1", (1,), [1], {}]
        for thing in wrong + [one for one in odd_objects() if type(one) is not int]:
            self.refuse_thing(("from", self.world, thing, 1))
            self.refuse_thing(("from", self.world, 0, thing))
            self.refuse_thing(("from", self.world, thing, thing))

    def test_not_like_and_one_thing_twice(self):
        for one, other in [(0, 0), (1, 1), (2, 2), (0, 2), (2, 1)]:
            self.refuse_thing(("from", self.world, one, other))

    def test_cut_off_longer_and_lists(self):
        good = ("from", self.world, 0, 1)
        for thing in [good[:3], good[:2], good[:1], (), good[1:], good + (0,), good + (None,), (good,), list(good),
                      ["from", self.world, 0, 1], good[::-1], ("from", (self.world, 0, 1)),
                      ("from", self.world, (0, 1))]:
            self.refuse_thing(thing)

    def test_other_worlds(self):
        for world in [World(BARE, 2, {}, {"r": [(0, 1)]}), World(BARE, 2, {}, {"r": []}),
                      World(BARE, 2, {}, {"r": [(0, 0), (1, 1)]}), World(NONE, 2, {}, {}),
                      World(Tongue((), ("s",), ()), 2, {}, {"s": [(0, 1), (1, 0)]}),
                      World(Tongue((), ("r",), ("r",)), 2, {}, {"r": [(0, 1), (1, 0)]}),
                      World(TIES, 2, {}, {"r": [(0, 1), (1, 0)], "s": []}), World, BARE, None, {}, ()]:
            self.refuse_thing(("from", world, 0, 1))
        self.assertIs(check_from(BARE, some("x", R_XX), ("from", self.world, 0, 1)), True)
        # The things are unlike for a saying with another inner part.
        self.assertIs(check_from(BARE, some("x", some("y", both(R_YX, R_YY))), ("from", self.world, 0, 1)), False)

    def test_anything(self):
        for thing in odd_objects() + [("none",), ("few", [2])]:
            self.refuse_thing(thing)
            self.refuse_thing(("from", thing, 0, 1))
            self.refuse_thing((thing, self.world, 0, 1))
        self.refuse_thing("from")

    def test_great_sayings(self):
        """The judge looks at the told world alone: here is more than what sizes is asked for."""
        full = Tongue(("p", "q", "o"), ("r", "s"), ())
        saying = both(out(both(R_XY, OTHER)), out(both(S_XY, P_Y)), out(R_YX), each("x", Q_X), some("x", O_X))
        pairs = [(one, other) for one in range(4) for other in range(4)]
        world = World(full, 4, {"p": [0, 1, 2], "q": [0, 1, 2, 3], "o": [3]}, {"r": pairs, "s": pairs})
        self.assertIs(check_from(full, saying, ("from", world, 0, 2)), True)
        self.assertIs(check_from(full, saying, ("from", world, 0, 3)), False)


class TestErrors(SizesCase):
    def call(self, function, tongue, saying):
        return [function, tongue, saying] + ([("none",)] if function is check_from else [])

    def test_has_functions(self):
        for function in (sizes, check_from):
            for tongue in (MAPS, TIED_MAPS):
                for saying in (TRUE, None, F_XY, ("tie", "q", "x", "y"), NEVER):
                    self.refuse(HasFunctions, *self.call(function, tongue, saying))

    def test_sayings(self):
        for function in (sizes, check_from):
            for thing in odd_objects() + [Q_X, ["true"], ("some", "x")]:
                self.refuse(NoSaying, *self.call(function, BOTH, thing))
            for saying in (P_X, R_XY, some("y", R_XY)):
                self.refuse(NotClosed, *self.call(function, BOTH, saying))
        world = World(BOTH, 2, {"p": []}, {"r": []})
        self.refuse(NotClosed, check_from, BOTH, P_X, ("from", world, 0, 1))


if __name__ == "__main__":
    unittest.main()
