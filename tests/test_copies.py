"""Points 12 and 13: like things, and worlds that grow by copies."""

import inspect
import itertools
import unittest

from pairsayings.copies import grown, like
from pairsayings.errors import (HasFunctions, NoSaying, NoThing, NoThings, NotClosed, NotHeld, NotLike)
from pairsayings.worlds import World, holds
from tests.cases import Case
from tests.listed import (BARE, BOTH, LISTED, MAPS, MARKED, NONE, TIES, TWICE, Sayings, all_worlds, free_names)
from tests.things import TRUE, odd_objects
from tests.words import F_XX, F_XY, F_YX, P_X, Q_X, R_XX, R_XY, R_YX, SAME, both, each, either, no, out, some

NEVER = no(TRUE)
OTHERS = both(R_XY, no(SAME))


def inner_parts(saying):
    """The inner parts of a saying, each as often as it stands."""
    found = [part for one in saying[1:] if isinstance(one, tuple) for part in inner_parts(one)]
    if saying[0] in ("each", "some") and len(free_names(saying)) == 1:
        found.append(saying)
    return found


def are_like(world, saying, one, other):
    """Tell whether two things of a listed world are like, as the document tells."""
    same_marks = all((one in told) == (other in told) for told in world.marks.values())
    same_loops = all(((one, one) in told) == ((other, other) in told) for told in world.ties.values())
    return same_marks and same_loops and all(world.tell(part, one, one) == world.tell(part, other, other)
                                             for part in inner_parts(saying))


def copied(world, one, other):
    """The world with one more copy of one, as the document tells."""
    new = world.things
    marks = {name: list(told) + [new] * (one in told) for name, told in world.marks.items()}
    ties = {}
    for name, told in world.ties.items():
        pairs = list(told) + [(new, new)] * ((one, one) in told)
        for thing in range(new):
            if thing != one:
                pairs += [(new, thing)] * ((one, thing) in told) + [(thing, new)] * ((thing, one) in told)
        pairs += [(new, one)] * ((one, other) in told) + [(one, new)] * ((other, one) in told)
        ties[name] = pairs
    return World(world.tongue, new + 1, marks, ties)


def cut(world, things):
    """The first things of a world."""
    marks = {name: [one for one in told if one < things] for name, told in world.marks.items()}
    ties = {name: [pair for pair in told if max(pair) < things] for name, told in world.ties.items()}
    return World(world.tongue, things, marks, ties)


class TestLike(Case):
    def tell_all(self, world, saying):
        """The pairs of things, the lower one first, that are like; the other way about it must be the same."""
        found = []
        for one, other in itertools.combinations(range(world.things), 2):
            so = self.tell(like, world, saying, one, other)
            self.assertIs(type(so), bool)
            self.assertIs(like(world, saying, other, one), so)
            found += [(one, other)] * so
        for one in range(world.things):
            self.assertIs(self.tell(like, world, saying, one, one), True)
        return found

    def test_the_interface(self):
        self.assertEqual((like.__module__, grown.__module__), ("pairsayings.copies",) * 2)
        self.assertEqual(list(inspect.signature(like).parameters), ["world", "saying", "one", "other"])
        self.assertEqual(list(inspect.signature(grown).parameters), ["world", "saying", "one", "other", "things"])

    def test_by_marks(self):
        world = World(TWICE, 5, {"p": [0, 1, 2], "q": [1, 2, 3]}, {})
        self.assertEqual(self.tell_all(world, TRUE), [(1, 2)])
        self.assertEqual(self.tell_all(World(TWICE, 3, {"p": [], "q": []}, {}), TRUE), [(0, 1), (0, 2), (1, 2)])

    def test_by_ties_to_itself(self):
        world = World(TIES, 4, {}, {"r": [(0, 0), (1, 1), (2, 3), (0, 2)], "s": [(0, 0), (2, 1)]})
        self.assertEqual(self.tell_all(world, TRUE), [(2, 3)])
        # Ties to others play no role without inner parts.
        self.assertEqual(self.tell_all(world, some("x", both(R_XX, no(("tie", "s", "x", "x"))))), [(2, 3)])

    def test_by_inner_parts(self):
        world = World(BARE, 4, {}, {"r": [(0, 1), (1, 2), (3, 2)]})
        self.assertEqual(self.tell_all(world, out(R_XY)), [(0, 1), (0, 3), (1, 3)])
        self.assertEqual(self.tell_all(world, out(R_YX)), [(0, 3), (1, 2)])
        self.assertEqual(self.tell_all(world, both(out(R_XY), out(R_YX))), [(0, 3)])
        self.assertEqual(self.tell_all(world, each("y", some("x", R_YX))), [(0, 1), (0, 3), (1, 3)])
        # An inner part of an inner part tells things apart, too: who leads to one that leads on.
        self.assertEqual(self.tell_all(world, some("x", some("y", both(R_XY, some("x", R_YX))))), [(1, 3)])
        self.assertEqual(self.tell_all(world, each("x", each("y", either(R_XY, SAME)))),
                         [(0, 1), (0, 2), (0, 3), (1, 2),
                                                                                          (1, 3), (2, 3)])

    def test_a_saying_that_does_not_hold(self):
        world = World(MARKED, 2, {"p": [0, 1]}, {})
        self.assertEqual(self.tell_all(world, NEVER), [(0, 1)])
        self.assertEqual(self.tell_all(world, some("x", no(P_X))), [(0, 1)])

    def test_functions(self):
        world = World(MAPS, 4, {}, {"f": [(0, 1), (1, 1), (2, 1), (3, 2)]})
        self.assertEqual(self.tell_all(world, TRUE), [(0, 2), (0, 3), (2, 3)])
        self.assertEqual(self.tell_all(world, out(F_YX)), [(0, 3)])
        self.assertEqual(self.tell_all(world, out(both(F_XY, some("x", both(F_YX, F_XX))))), [(0, 2)])

    def test_against_the_document(self):
        for tongue, most in LISTED:
            made = Sayings(tongue, 40)
            worlds = all_worlds(tongue, most)
            for _ in range(60):
                saying, world = made.closed(made.random.randint(1, 6)), made.random.choice(worlds)
                for one, other in itertools.product(range(most), repeat=2):
                    self.assertIs(like(world.world(), saying, one, other), are_like(world, saying, one, other), saying)

    def test_errors(self):
        world = World(BOTH, 2, {"p": [0]}, {"r": []})
        wrong = [-1, 2, 300, True, False, None, "0", (0,), [0], 2 ** 70]
        wrong += [one for one in odd_objects() if not (type(one) is int and 0 <= one < 2)]
        for at, thing in enumerate(wrong):
            with self.subTest(at=at):
                self.refuse(NoThing, like, world, TRUE, thing, 0)
                self.refuse(NoThing, like, world, TRUE, 0, thing)
                self.refuse(NoThing, like, world, TRUE, thing, thing)
        for at, thing in enumerate(odd_objects() + [("mark", "q", "x"), ["true"]]):
            with self.subTest(at=at):
                self.refuse(NoSaying, like, world, thing, 0, 0)
        for saying in (P_X, R_XY, some("y", R_XY)):
            self.refuse(NotClosed, like, world, saying, 0, 0)
        self.refuse_in_order(like, [world, TRUE, 0, 1], [(1, None, NoSaying), (1, P_X, NotClosed), (2, 2, NoThing),
                                                         (3, True, NoThing)])


class TestGrown(Case):
    def check(self, world, saying, one, other, most):
        """Check the world grown thing by thing up to so many things."""
        wanted = world
        for things in range(world.things, most + 1):
            found = grown(world, saying, one, other, things)
            self.assertEqual(found, wanted, (saying, one, other, things))
            self.assertTrue(holds(found, saying))
            for copy in range(world.things, things):
                self.assertTrue(like(found, saying, one, copy) and like(found, saying, copy, other))
            self.assertTrue(like(found, saying, one, other))
            self.assertEqual(cut(found, world.things), world)
            self.assertEqual(grown(found, saying, one, other, most), grown(world, saying, one, other, most))
            wanted = copied(wanted, one, other)

    def test_by_hand(self):
        world = World(BOTH, 3, {"p": [0, 1]}, {"r": [(0, 1), (1, 2), (0, 2), (2, 2)]})
        found = self.tell(grown, world, TRUE, 0, 1, 5)
        self.assertEqual(found, World(BOTH, 5, {"p": [0, 1, 3, 4]}, {
            "r": [(0, 1), (1, 2), (0, 2), (2, 2), (3, 1), (3, 2), (3, 0), (4, 1), (4, 2), (4, 0), (3, 4)]}))
        found = self.tell(grown, world, TRUE, 1, 0, 4)
        self.assertEqual(found, World(BOTH, 4, {"p": [0, 1, 3]}, {
            "r": [(0, 1), (1, 2), (0, 2), (2, 2), (3, 2), (0, 3), (1, 3)]}))

    def test_copy_by_copy_up_to_12_things(self):
        tried = 0
        for tongue, most in LISTED:
            if tongue.functions or most < 2:
                continue
            made = Sayings(tongue, 50)
            for things in range(2, most + 1):
                worlds = all_worlds(tongue, things)
                for _ in range(25):
                    saying, listed = made.closed(made.random.randint(1, 5)), made.random.choice(worlds)
                    pairs = [pair for pair in itertools.permutations(range(things), 2)
                             if are_like(listed, saying, *pair)]
                    if pairs and listed.tell(saying):
                        tried += 1
                        self.check(listed.world(), saying, *made.random.choice(pairs),
                                   made.random.choice([things, 7, 12]))
        self.assertGreater(tried, 100)

    def test_worlds_of_5_things(self):
        made = Sayings(TIES, 51)
        tried = 0
        while tried < 25:
            pairs = {name: [pair for pair in itertools.product(range(5), repeat=2) if made.random.random() < 0.5]
                     for name in ("r", "s")}
            world, saying = World(TIES, 5, {}, pairs), made.closed(4)
            found = [pair for pair in itertools.permutations(range(5), 2) if like(world, saying, *pair)]
            if found and holds(world, saying):
                tried += 1
                self.check(world, saying, *made.random.choice(found), 8)

    def test_up_to_300_things(self):
        world = World(BARE, 3, {}, {"r": [(0, 1), (1, 2), (2, 0)]})
        saying = both(out(OTHERS), each("xy", no(both(R_XY, R_YX))))
        found = grown(world, saying, 0, 1, 300)
        self.assertEqual(found.things, 300)
        self.assertTrue(holds(found, saying))
        self.assertEqual(cut(found, 20), grown(world, saying, 0, 1, 20))
        self.assertEqual(grown(grown(world, saying, 0, 1, 100), saying, 0, 1, 300), found)
        self.assertEqual(grown(found, saying, 299, 0, 300), found)
        self.assertEqual(grown(World(NONE, 300, {}, {}), TRUE, 0, 299, 300), World(NONE, 300, {}, {}))

    def test_as_many_things_as_before(self):
        world = World(MARKED, 2, {"p": [0, 1]}, {})
        self.assertEqual(grown(world, TRUE, 0, 1, 2), world)

    def test_the_world_stays(self):
        world = World(BARE, 2, {}, {"r": [(0, 1), (1, 0)]})
        grown(world, out(OTHERS), 0, 1, 9)
        self.assertEqual(world, World(BARE, 2, {}, {"r": [(0, 1), (1, 0)]}))


class TestGrownErrors(Case):
    def setUp(self):
        self.world = World(BOTH, 3, {"p": [0, 1]}, {"r": [(0, 1), (1, 0)]})

    def test_has_functions(self):
        world = World(MAPS, 2, {}, {"f": [(0, 0), (1, 1)]})
        for saying, one, other, things in [(TRUE, 0, 1, 3), (None, 0, 1, 3), (F_XY, 9, 9, 0), (NEVER, 0, 0, 301)]:
            self.refuse(HasFunctions, grown, world, saying, one, other, things)

    def test_sayings(self):
        for at, thing in enumerate(odd_objects() + [Q_X, ["true"]]):
            with self.subTest(at=at):
                self.refuse(NoSaying, grown, self.world, thing, 0, 1, 4)
        for saying in (P_X, R_XY, some("y", R_XY)):
            self.refuse(NotClosed, grown, self.world, saying, 0, 1, 4)
        for saying in (NEVER, each("x", P_X), out(R_XY)):
            self.refuse(NotHeld, grown, self.world, saying, 0, 1, 4)

    def test_no_thing(self):
        wrong = [-1, 3, True, False, None, "0", (0,)]
        wrong += [one for one in odd_objects() if not (type(one) is int and 0 <= one < 3)]
        for at, thing in enumerate(wrong):
            with self.subTest(at=at):
                self.refuse(NoThing, grown, self.world, TRUE, thing, 1, 4)
                self.refuse(NoThing, grown, self.world, TRUE, 0, thing, 4)

    def test_not_like(self):
        for one, other in [(0, 0), (1, 1), (2, 2), (0, 2), (2, 0), (1, 2)]:
            self.refuse(NotLike, grown, self.world, TRUE, one, other, 4)
        world = World(BARE, 2, {}, {"r": [(0, 1)]})
        self.refuse(NotLike, grown, world, some("x", some("y", R_XY)), 0, 1, 4)
        self.assertEqual(grown(world, TRUE, 0, 1, 3).things, 3)

    def test_no_things(self):
        wrong = [2, 0, -1, 301, 2 ** 70, True, False, None, "4", (4,)]
        wrong += [one for one in odd_objects() if not (type(one) is int and 3 <= one <= 300)]
        for at, thing in enumerate(wrong):
            with self.subTest(at=at):
                self.refuse(NoThings, grown, self.world, TRUE, 0, 1, thing)

    def test_the_order_of_errors(self):
        maps = World(MAPS, 3, {}, {"f": [(0, 0), (1, 0), (2, 0)]})
        faults = [(0, maps, HasFunctions), (1, None, NoSaying), (1, P_X, NotClosed), (1, NEVER, NotHeld),
                  (2, 3, NoThing), (3, None, NoThing), (4, 2, NoThings)]
        self.refuse_in_order(grown, [self.world, TRUE, 0, 1, 4], faults)
        self.refuse_in_order(grown, [self.world, TRUE, 0, 1, 4],
                             [(1, (), NoSaying), (1, NEVER, NotHeld), (3, 2, NotLike), (4, 2, NoThings)])
        self.refuse_in_order(grown, [self.world, TRUE, 0, 1, 4], [(2, 1, NotLike), (4, 301, NoThings)])
        self.refuse(NoThing, grown, self.world, TRUE, 3, 3, 4)


if __name__ == "__main__":
    unittest.main()
