"""Point 11: rows of worlds, worlds by number, and numbers of worlds."""

import inspect
import itertools
import unittest

from pairsayings.counting import count
from pairsayings.errors import NoNumber, NoSaying, NoThings, NotClosed
from pairsayings.numbers import world_at, world_number, world_row
from pairsayings.tongues import Tongue
from pairsayings.worlds import World, holds
from tests.cases import Case
from tests.listed import (BARE, BOTH, LISTED, MAPS, MARKED, MARKED_MAPS, NONE, TIED_MAPS, TIES, TWICE, Sayings,
                          all_worlds, load, places)
from tests.test_counting import HAND
from tests.things import TRUE, odd_objects
from tests.words import F_XX, F_YX, P_X, P_Y, Q_X, R_XX, R_XY, R_YX, SAME, S_XY, S_YX, both, each, either, no, out, some

NEVER = no(TRUE)


def row_of(world):
    """The row of a listed world, flag by flag as the document tells."""
    flags = []
    for thing in range(world.things):
        flags += [thing in world.marks[name] for name in world.tongue.marks]
        flags += [(thing, thing) in world.ties[name] for name in world.tongue.ties]
    for one, other in itertools.combinations(range(world.things), 2):
        for name in world.tongue.ties:
            flags += [(one, other) in world.ties[name], (other, one) in world.ties[name]]
    return tuple(flags)


class NumbersCase(Case):
    def check(self, ordered, tongue, saying, things):
        """Check all numbers, or some of many, against the worlds listed one by one in their order."""
        held = [world for world in ordered if world.tell(saying)]
        for number in range(0, len(held), max(1, len(held) // 20)):
            world = held[number].world()
            self.assertEqual(world_at(tongue, saying, things, number), world, (saying, number))
            self.assertEqual(world_number(world, saying), number, saying)
        for world in ordered[::max(1, len(ordered) // 20)]:
            if not world.tell(saying):
                self.assertIsNone(world_number(world.world(), saying))
        self.refuse(NoNumber, world_at, tongue, saying, things, len(held))

    def there_and_back(self, tongue, saying, things, number):
        """Check that the number leads to a world in which the saying holds, and back."""
        world = self.tell(world_at, tongue, saying, things, number)
        self.assertTrue(holds(world, saying))
        self.assertEqual((world.tongue, world.things), (tongue, things))
        self.assertEqual(self.tell(world_number, world, saying), number)
        return world


class TestRow(Case):
    def test_by_hand(self):
        tongue = Tongue(("b", "a"), ("s", "r"), ())
        world = World(tongue, 3, {"a": [0], "b": [1, 2]},
                      {"r": [(0, 0), (0, 1), (2, 1)], "s": [(2, 2), (1, 0), (0, 2)]})
        self.assertEqual(self.tell(world_row, world), (
            False, True, False, True,
            True, False, False, False,
            True, False, True, False,
            False, True, True, False,
            True, False, False, False,
            False, False, False, True))

    def test_without_names_and_with_one_thing(self):
        self.assertEqual(world_row(World(NONE, 300, {}, {})), ())
        self.assertEqual(world_row(World(MARKED, 1, {"p": [0]}, {})), (True,))
        self.assertEqual(world_row(World(BARE, 1, {}, {"r": []})), (False,))
        self.assertEqual(world_row(World(BOTH, 1, {"p": []}, {"r": [(0, 0)]})), (False, True))

    def test_all_worlds_of_small_sizes(self):
        for tongue, most in LISTED:
            for things in range(1, most + 1):
                worlds = all_worlds(tongue, things)
                rows = {}
                for world in worlds:
                    row = world_row(world.world())
                    self.assertIs(type(row), tuple)
                    self.assertEqual(row, row_of(world))
                    rows[row] = True
                self.assertEqual(len(rows), len(worlds))
                self.assertTrue(all(type(flag) is bool for row in rows for flag in row))

    def test_a_great_world(self):
        tongue = Tongue(("p",), ("r", "s"), ())
        world = World(tongue, 300, {"p": [299]}, {"r": [(299, 298)], "s": [(0, 1), (7, 7)]})
        row = world_row(world)
        self.assertEqual(len(row), 300 * 3 + 300 * 299 // 2 * 4)
        self.assertEqual([at for at, flag in enumerate(row) if flag], [7 * 3 + 2, 299 * 3, 902, len(row) - 3])


class TestAgainstAllWorlds(NumbersCase):
    def test_by_hand(self):
        for (tongue, most), (_, sayings) in zip(LISTED, HAND):
            for things in range(1, most + 1):
                ordered = sorted(all_worlds(tongue, things), key=row_of)
                for saying in sayings:
                    self.check(ordered, tongue, saying, things)

    def test_many_sayings(self):
        for tongue, most in LISTED:
            made = Sayings(tongue, 30)
            for things in range(1, most + 1):
                ordered = sorted(all_worlds(tongue, things), key=row_of)
                for _ in range(12):
                    saying = made.closed(made.random.randint(2, 5))
                    if load(tongue, saying) <= 5 and places(saying)[1] <= 6:
                        self.check(ordered, tongue, saying, things)

    def test_each_number(self):
        for tongue, things, saying in [(MARKED, 4, some("x", P_X)), (BARE, 2, out(R_XY)), (MAPS, 3, some("x", F_XX)),
                                       (BOTH, 2, out(both(R_XY, P_Y))), (MARKED_MAPS, 2, out(both(F_YX, P_X)))]:
            held = [world for world in sorted(all_worlds(tongue, things), key=row_of) if world.tell(saying)]
            self.assertEqual(len(held), count(tongue, saying, things))
            for number, world in enumerate(held):
                self.assertEqual(self.tell(world_at, tongue, saying, things, number), world.world())
                self.assertEqual(self.tell(world_number, world.world(), saying), number)


class TestByHand(NumbersCase):
    def test_the_interface(self):
        names = {world_row: ["world"], world_at: ["tongue", "saying", "things", "number"],
                 world_number: ["world", "saying"]}
        for function, told in names.items():
            self.assertEqual(function.__module__, "pairsayings.numbers")
            self.assertEqual(list(inspect.signature(function).parameters), told)

    def test_the_first_and_the_last_one(self):
        every = [(one, other) for one in range(4) for other in range(4)]
        self.assertEqual(world_at(BOTH, TRUE, 4, 0), World(BOTH, 4, {"p": []}, {"r": []}))
        self.assertEqual(world_at(BOTH, TRUE, 4, 2 ** 20 - 1), World(BOTH, 4, {"p": (0, 1, 2, 3)}, {"r": every}))
        self.assertEqual(world_number(World(BOTH, 4, {"p": [0, 1, 2, 3]}, {"r": every}), TRUE), 2 ** 20 - 1)

    def test_all_worlds_by_their_rows_as_binary_numbers(self):
        for number in (0, 1, 5, 77, 1000, 65535):
            world = world_at(BARE, TRUE, 4, number)
            self.assertEqual(world_row(world), tuple(sign == "1" for sign in f"{number:016b}"))
            self.assertEqual(world_number(world, TRUE), number)

    def test_the_loads_with_4_things(self):
        full = Tongue(("p", "q", "o"), ("r", "s"), ())
        tied = Tongue(("p", "q"), ("r", "s"), ())
        marked = Tongue(("p",), ("r", "f"), ("f",))
        rows = [
            (full, both(some("x", both(P_X, no(R_XX))), each("x", either(P_X, Q_X)), some("x", R_XX))),
            (tied, out(both(R_XY, S_YX, P_X))),
            (TIES, both(out(R_XY), out(S_XY), out(both(R_XY, S_XY)))),
            (BARE, both(out(R_XY), out(R_YX), out(no(R_XY)), out(no(R_YX)))),
            (BARE, out(both(R_XY, some("x", both(R_YX, no(SAME), each("y", either(R_XY, some("x", R_YX)))))))),
            (BOTH, both(out(both(R_XY, P_Y)), out(both(R_YX, no(P_Y))), out(both(no(R_XY), no(SAME))))),
            (MAPS, both(out(F_YX), each("xy", either(no(("tie", "f", "x", "y")), F_YX)))),
            (MARKED_MAPS, out(both(F_YX, P_Y))), (TIED_MAPS, out(both(R_XY, no(("tie", "f", "x", "y"))))),
            (marked, some("x", both(P_X, R_XX))),
            (TWICE, both(out(both(P_Y, no(SAME))), some("x", each("y", either(Q_X, SAME))), out(no(SAME)))),
        ]
        for tongue, saying in rows:
            self.assertEqual(load(tongue, saying), 5)
            every = count(tongue, saying, 4)
            worlds = [self.there_and_back(tongue, saying, 4, number)
                      for number in sorted({0, min(1, every - 1), every // 3, every // 2, every - 1})]
            rows_of = [world_row(world) for world in worlds]
            self.assertEqual(rows_of, sorted(set(rows_of)))
            self.refuse(NoNumber, world_at, tongue, saying, 4, every)

    def test_neighbours_are_in_order(self):
        saying = out(both(R_XY, no(P_Y)))
        found = [world_row(world_at(BOTH, saying, 3, number)) for number in range(400, 460)]
        self.assertEqual(found, sorted(set(found)))

    def test_where_it_does_not_hold(self):
        world = World(BARE, 2, {}, {"r": [(0, 1)]})
        self.assertIsNone(self.tell(world_number, world, out(R_XY)))
        self.assertIsNone(world_number(world, NEVER))
        self.assertEqual(world_number(world, no(out(R_XY))), 2)
        self.assertIsNone(world_number(World(MAPS, 2, {}, {"f": [(0, 0), (1, 0)]}), out(F_YX)))

    def test_functions(self):
        world = World(MAPS, 3, {}, {"f": [(0, 1), (1, 2), (2, 0)]})
        cycles = both(out(F_YX), each("x", no(F_XX)))
        self.assertEqual((world_number(world, cycles), count(MAPS, cycles, 3)), (1, 2))
        self.assertEqual(world_at(MAPS, cycles, 3, 1), world)
        self.assertEqual(world_at(MAPS, cycles, 3, 0), World(MAPS, 3, {}, {"f": [(0, 2), (2, 1), (1, 0)]}))


class TestSixty(NumbersCase):
    def test_60_things(self):
        self.assertEqual(self.there_and_back(NONE, TRUE, 60, 0), World(NONE, 60, {}, {}))
        self.refuse(NoNumber, world_at, NONE, TRUE, 60, 1)
        world = self.there_and_back(MARKED, some("x", P_X), 60, 2 ** 60 - 2)
        self.assertEqual(world.marks["p"], tuple(range(60)))
        self.assertEqual(world_at(MARKED, some("x", P_X), 60, 0).marks["p"], (59,))

    def test_61_things(self):
        self.refuse(NoThings, world_at, NONE, TRUE, 61, 0)
        self.refuse(NoThings, world_number, World(NONE, 61, {}, {}), TRUE)
        self.refuse(NoThings, world_number, World(NONE, 61, {}, {}), NEVER)
        self.refuse(NoThings, world_number, World(MARKED, 300, {"p": []}, {}), some("x", P_X))
        self.assertIsNone(world_number(World(NONE, 60, {}, {}), NEVER))


class TestErrors(NumbersCase):
    def test_no_number(self):
        wrong = [-1, 3, 4, 2 ** 70, -2 ** 70, True, False, None, "0", b"0", "", (0,), [0], {0: 0}, (), []]
        wrong += [one for one in odd_objects() if not (type(one) is int and 0 <= one < 3)]
        for at, thing in enumerate(wrong):
            with self.subTest(at=at):
                self.refuse(NoNumber, world_at, MARKED, some("x", P_X), 2, thing)
        for thing in (0, -1, None, False):
            self.refuse(NoNumber, world_at, MARKED, NEVER, 2, thing)
        self.refuse(NoNumber, world_at, NONE, some("xy", no(SAME)), 1, 0)

    def test_no_things(self):
        wrong = [0, 61, -1, 300, True, False, None, "1", (1,), [1]]
        wrong += [one for one in odd_objects() if not (type(one) is int and 1 <= one <= 60)]
        for at, thing in enumerate(wrong):
            with self.subTest(at=at):
                self.refuse(NoThings, world_at, NONE, TRUE, thing, 0)

    def test_sayings(self):
        world = World(BOTH, 2, {"p": []}, {"r": []})
        for at, thing in enumerate(odd_objects() + [("mark", "q", "x"), ["true"]]):
            with self.subTest(at=at):
                self.refuse(NoSaying, world_at, BOTH, thing, 2, 0)
                self.refuse(NoSaying, world_number, world, thing)
        for saying in (P_X, P_Y, R_XY, some("y", R_XY)):
            self.refuse(NotClosed, world_at, BOTH, saying, 2, 0)
            self.refuse(NotClosed, world_number, world, saying)

    def test_the_order_of_errors(self):
        faults = [(1, None, NoSaying), (1, P_X, NotClosed), (2, 0, NoThings), (3, -1, NoNumber)]
        self.refuse_in_order(world_at, [BOTH, TRUE, 2, 0], faults)
        great = World(BOTH, 61, {"p": []}, {"r": []})
        faults = [(1, None, NoSaying), (1, P_X, NotClosed), (0, great, NoThings)]
        self.refuse_in_order(world_number, [World(BOTH, 2, {"p": []}, {"r": []}), TRUE], faults)


if __name__ == "__main__":
    unittest.main()
