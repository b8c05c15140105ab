"""Point 5: what is so in a world, and of two of its things."""

import inspect
import itertools
import unittest

from pairsayings.errors import NoSaying, NoThing, NotClosed
from pairsayings.tongues import Tongue
from pairsayings.worlds import World, holds, holds_at
from tests.cases import Case
from tests.listed import BARE, BOTH, LISTED, TWICE, Listed, Sayings, all_worlds
from tests.things import TRUE, nested, odd_objects, of_size
from tests.words import SAME, each, some

WEB = Tongue(("red",), ("to",), ())
# 0 leads to 1, 1 to itself, 2 to 0; 2 is red.
THREE = World(WEB, 3, {"red": [2]}, {"to": [(0, 1), (1, 1), (2, 0)]})
RED_X = ("mark", "red", "x")
RED_Y = ("mark", "red", "y")
TO_XY = ("tie", "to", "x", "y")
TO_YX = ("tie", "to", "y", "x")
OUT = ("some", "y", ("and", TO_XY, ("not", SAME)))


class HoldsCase(Case):
    def pairs_of(self, saying, world=THREE):
        """The list of the pairs of things of which a saying is so."""
        every = itertools.product(range(world.things), repeat=2)
        found = []
        for x, y in every:
            so = self.tell(holds_at, world, saying, x, y)
            self.assertIs(type(so), bool)
            if so:
                found.append((x, y))
        return found

    def things_of(self, saying, world=THREE):
        """The list of the things of which a saying is so as x, whatever y is."""
        found = self.pairs_of(saying, world)
        things = sorted({x for x, _ in found})
        self.assertEqual(found, list(itertools.product(things, range(world.things))))
        return things

    def check(self, saying, so, world=THREE):
        """Check that a closed saying holds, or that it does not, also as told of two things."""
        self.assertIs(self.tell(holds, world, saying), so)
        self.assertIs(self.tell(holds, world, ("not", saying)), not so)
        self.assertEqual(self.things_of(saying, world), list(range(world.things)) if so else [])


class TestByHand(HoldsCase):
    def test_the_interface(self):
        self.assertEqual(holds.__module__, "pairsayings.worlds")
        self.assertEqual(holds_at.__module__, "pairsayings.worlds")
        self.assertEqual(list(inspect.signature(holds).parameters), ["world", "saying"])
        self.assertEqual(list(inspect.signature(holds_at).parameters), ["world", "saying", "x", "y"])

    def test_examples_of_the_document(self):
        found = (holds(THREE, each("x", OUT)), holds_at(THREE, OUT, 0, 0), holds_at(THREE, OUT, 1, 0))
        self.assertEqual(found, (False, True, False))

    def test_without_sayings_within(self):
        every = list(itertools.product(range(3), repeat=2))
        self.assertEqual(self.pairs_of(TRUE), every)
        self.assertEqual(self.things_of(RED_X), [2])
        self.assertEqual(self.pairs_of(RED_Y), [(0, 2), (1, 2), (2, 2)])
        self.assertEqual(self.pairs_of(TO_XY), [(0, 1), (1, 1), (2, 0)])
        self.assertEqual(self.pairs_of(TO_YX), [(0, 2), (1, 0), (1, 1)])
        self.assertEqual(self.things_of(("tie", "to", "x", "x")), [1])
        self.assertEqual(self.pairs_of(("tie", "to", "y", "y")), [(0, 1), (1, 1), (2, 1)])
        self.assertEqual(self.pairs_of(SAME), [(0, 0), (1, 1), (2, 2)])
        self.assertEqual(self.pairs_of(("same", "y", "x")), [(0, 0), (1, 1), (2, 2)])
        self.assertEqual(self.pairs_of(("same", "x", "x")), every)
        self.assertEqual(self.pairs_of(("same", "y", "y")), every)

    def test_not_and_or(self):
        self.assertEqual(self.things_of(("not", RED_X)), [0, 1])
        self.assertEqual(self.pairs_of(("and", TO_XY, ("not", SAME))), [(0, 1), (2, 0)])
        self.assertEqual(self.pairs_of(("and", TO_XY, RED_X)), [(2, 0)])
        self.assertEqual(self.pairs_of(("or", ("and", TO_XY, RED_X), ("and", TO_YX, SAME))), [(1, 1), (2, 0)])
        self.assertEqual(self.pairs_of(("and", RED_X, RED_Y)), [(2, 2)])
        self.assertEqual(self.pairs_of(("not", ("or", TO_XY, TO_YX))), [(0, 0), (1, 2), (2, 1), (2, 2)])

    def test_each_and_some(self):
        self.assertEqual(self.things_of(some("y", TO_YX)), [0, 1])
        self.assertEqual(self.things_of(some("y", TO_XY)), [0, 1, 2])
        self.assertEqual(self.things_of(each("y", TO_XY)), [])
        self.assertEqual(self.things_of(OUT), [0, 2])
        self.assertEqual(self.things_of(each("y", ("or", ("not", TO_XY), SAME))), [1])
        self.assertEqual(self.things_of(some("y", ("and", TO_XY, RED_X))), [2])
        self.assertEqual(self.things_of(some("y", ("and", TO_YX, RED_Y))), [0])
        self.assertEqual(self.pairs_of(some("x", TO_XY)), [(0, 0), (0, 1), (1, 0), (1, 1), (2, 0), (2, 1)])
        self.check(each("x", some("y", TO_XY)), True)
        self.check(each("y", some("x", TO_XY)), False)
        self.check(some("x", each("y", TO_YX)), False)
        self.check(some("x", RED_X), True)
        self.check(each("x", RED_X), False)
        self.check(some("x", some("y", ("and", TO_XY, TO_YX))), True)
        self.check(some("x", some("y", ("and", ("and", TO_XY, TO_YX), ("not", SAME)))), False)

    def test_a_name_that_is_not_free_may_be_any_thing(self):
        for x in range(3):
            for y in range(3):
                self.assertIs(holds_at(THREE, each("x", some("y", TO_XY)), x, y), True)
                self.assertIs(holds_at(THREE, RED_X, 2, y), True)

    def test_names_bound_anew(self):
        # Of the things to which one leads from 2, there is one to which one leads from 0.
        two_steps = some("y", ("and", TO_XY, some("x", ("and", TO_YX, RED_X))))
        self.assertEqual(self.things_of(two_steps), [])
        self.assertEqual(self.things_of(some("y", ("and", TO_XY, some("x", TO_YX)))), [0, 1, 2])
        three_steps = some("y", ("and", TO_XY, some("x", ("and", TO_YX, ("tie", "to", "x", "x")))))
        self.assertEqual(self.things_of(three_steps), [0, 1, 2])
        self.assertEqual(self.things_of(("and", RED_X, some("x", ("not", RED_X)))), [2])
        self.assertEqual(self.things_of(("and", ("not", RED_X), each("x", ("or", RED_X, some("x", RED_X))))), [0, 1])
        self.check(each("x", some("x", RED_X)), True)
        self.check(some("x", each("x", RED_X)), False)
        self.assertEqual(self.pairs_of(some("x", some("x", TO_XY))), self.pairs_of(some("x", TO_XY)))

    def test_what_says_nothing_of_its_name(self):
        self.assertEqual(self.things_of(each("y", RED_X)), [2])
        self.assertEqual(self.things_of(some("y", RED_X)), [2])
        self.check(each("x", TRUE), True)
        self.check(some("y", ("not", TRUE)), False)
        self.check(each("x", each("x", each("y", TRUE))), True)

    def test_one_thing(self):
        lone = World(WEB, 1, {"red": []}, {"to": []})
        self.check(each("x", each("y", SAME)), True, lone)
        self.check(some("x", some("y", ("not", SAME))), False, lone)
        self.check(some("x", ("or", RED_X, ("tie", "to", "x", "x"))), False, lone)
        self.check(some("x", some("y", TO_XY)), True, World(WEB, 1, {"red": []}, {"to": [(0, 0)]}))

    def test_how_many_things(self):
        nothing = Tongue((), (), ())
        two = some("x", some("y", ("not", SAME)))
        self.check(two, False, World(nothing, 1, {}, {}))
        self.check(two, True, World(nothing, 2, {}, {}))
        self.assertIs(holds(World(nothing, 300, {}, {}), each("x", some("y", ("not", SAME)))), True)

    def test_300_things(self):
        ring = World(Tongue((), ("f",), ("f",)), 300, {}, {"f": [(one, (one + 1) % 300) for one in range(300)]})
        step = ("tie", "f", "x", "y")
        self.assertIs(holds(ring, each("y", some("x", step))), True)
        self.assertIs(holds(ring, some("x", ("tie", "f", "x", "x"))), False)
        self.assertIs(holds_at(ring, step, 299, 0), True)
        self.assertIs(holds_at(ring, step, 0, 299), False)
        last = World(WEB, 300, {"red": [299]}, {"to": [(one, 299) for one in range(299)]})
        self.assertIs(holds(last, each("x", some("y", ("and", TO_XY, RED_Y)))), False)
        self.assertIs(holds(last, each("x", ("or", RED_X, some("y", ("and", TO_XY, RED_Y))))), True)

    def test_great_sayings(self):
        listed = Listed(WEB, 3, {"red": {2}}, {"to": {(0, 1), (1, 1), (2, 0)}})
        self.assertIs(holds(THREE, of_size(100)), listed.tell(of_size(100)))
        self.check(nested(16, lambda one: ("not", one), some("x", RED_X)), True)
        self.check(nested(17, lambda one: ("not", one), some("x", RED_X)), False)
        steps = TO_XY
        # Eight steps lead on from each thing, and another one.
        for at in range(8):
            steps = some("xy"[at % 2], ("and", ("tie", "to", "yx"[at % 2], "xy"[at % 2]), steps))
        self.assertEqual(self.things_of(("and", steps, TRUE)), [0, 1, 2])


class TestAgainstGoingThroughAllThings(HoldsCase):
    def test_all_small_worlds(self):
        for tongue, many in LISTED:
            made = Sayings(tongue, 5)
            sayings = [made.closed(4) for _ in range(12)] + [made.any(4) for _ in range(12)]
            for listed in all_worlds(tongue, min(many, 2)):
                world = listed.world()
                for closed in sayings[:12]:
                    self.assertIs(holds(world, closed), listed.tell(closed), closed)
                for saying in sayings[12:]:
                    for x, y in itertools.product(range(listed.things), repeat=2):
                        self.assertIs(holds_at(world, saying, x, y), listed.tell(saying, x, y), saying)

    def test_greater_worlds(self):
        for seed in range(25):
            for tongue, _ in LISTED:
                made = Sayings(tongue, seed)
                things = made.random.randint(3, 5)
                marks = {name: {one for one in range(things) if made.random.random() < 0.4} for name in tongue.marks}
                ties = {}
                for name in tongue.ties:
                    every = list(itertools.product(range(things), repeat=2))
                    ties[name] = {one for one in every if made.random.random() < 0.3}
                    if name in tongue.functions:
                        ties[name] = {(one, made.random.randrange(things)) for one in range(things)}
                listed = Listed(tongue, things, marks, ties)
                world = listed.world()
                closed, saying = made.closed(5), made.any(5)
                self.assertIs(holds(world, closed), listed.tell(closed), closed)
                x, y = made.random.randrange(things), made.random.randrange(things)
                self.assertIs(holds_at(world, saying, x, y), listed.tell(saying, x, y), saying)

    def test_the_same_saying_written_otherwise(self):
        for tongue in (BARE, BOTH, TWICE):
            made = Sayings(tongue, 11)
            worlds = [listed.world() for listed in all_worlds(tongue, 2)]
            for _ in range(5):
                one, other = made.any(3), made.any(3)
                pairs = [(("and", one, other), ("not", ("or", ("not", one), ("not", other)))),
                         (("or", one, other), ("or", other, one)), (one, ("not", ("not", one))),
                         (each("x", one), ("not", some("x", ("not", one)))),
                         (some("y", one), ("not", each("y", ("not", one)))),
                         (each("y", ("and", one, other)), ("and", each("y", one), each("y", other))),
                         (some("x", ("or", one, other)), ("or", some("x", one), some("x", other)))]
                for world in worlds:
                    for left, right in pairs:
                        self.assertEqual(self.pairs_of(left, world), self.pairs_of(right, world), (left, right))


class TestErrors(HoldsCase):
    def test_no_saying(self):
        wrong = [("mark", "blue", "x"), ("tie", "red", "x", "y"), ["true"], ("some", "x"), (), of_size(101),
                 nested(20, lambda one: ("not", one), TRUE)]
        for at, thing in enumerate(odd_objects() + wrong):
            with self.subTest(at=at):
                self.refuse(NoSaying, holds, THREE, thing)
                self.refuse(NoSaying, holds_at, THREE, thing, 0, 0)
                self.refuse(NoSaying, holds_at, THREE, thing, None, 3)

    def test_not_closed(self):
        for saying in [RED_X, RED_Y, TO_XY, SAME, ("same", "x", "x"), OUT, ("and", TRUE, RED_Y), each("x", RED_Y),
                       some("y", ("or", RED_Y, RED_X)), ("and", some("x", RED_X), RED_X)]:
            self.refuse(NotClosed, holds, THREE, saying)
            self.refuse(NotClosed, holds, THREE, ("not", saying))

    def test_no_saying_ahead_of_not_closed(self):
        self.refuse(NoSaying, holds, THREE, ("and", RED_X, ("mark", "blue", "x")))

    def test_no_thing(self):
        wrong = [-1, -3, 3, 4, 300, 2 ** 70, -2 ** 70, True, False, None, "", "0", "x", b"0", (), (0,), [0], {}, {0: 0}]
        wrong += [one for one in odd_objects() if not (type(one) is int and 0 <= one < 3)]
        for at, thing in enumerate(wrong):
            with self.subTest(at=at):
                for saying in (TRUE, RED_X, RED_Y, TO_XY, each("x", some("y", TO_XY))):
                    self.refuse(NoThing, holds_at, THREE, saying, thing, 0)
                    self.refuse(NoThing, holds_at, THREE, saying, 0, thing)
                    self.refuse(NoThing, holds_at, THREE, saying, thing, thing)

    def test_things_of_one_thing(self):
        lone = World(WEB, 1, {"red": [0]}, {"to": []})
        self.assertIs(holds_at(lone, RED_X, 0, 0), True)
        for wrong in (1, -1, False, True):
            self.refuse(NoThing, holds_at, lone, RED_X, 0, wrong)
            self.refuse(NoThing, holds_at, lone, RED_Y, wrong, 0)

    def test_what_is_passed_stays_as_it_is(self):
        world = World(WEB, 2, {"red": [0]}, {"to": [(0, 1)]})
        holds(world, some("x", RED_X))
        holds_at(world, TO_XY, 0, 1)
        self.assertEqual(world, World(WEB, 2, {"red": [0]}, {"to": [(0, 1)]}))


if __name__ == "__main__":
    unittest.main()
