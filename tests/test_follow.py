"""Point 15: what follows from sayings, and worlds that part them."""

import inspect
import itertools
import unittest

from pairsayings.errors import HasFunctions, NoGiven, NoSaying, NotClosed
from pairsayings.follow import check_follows, check_parting, follows, least_given, parting
from pairsayings.tongues import Tongue
from pairsayings.worlds import World, holds
from tests.cases import Case
from tests.listed import BARE, BOTH, MAPS, MARKED, NONE, TIED_MAPS, TIES, TWICE, Sayings, all_worlds, load, places
from tests.test_sizes import FEW, FROM, NONE_AT_ALL, TRIPLE
from tests.things import TRUE, odd_objects
from tests.words import (F_XY, P_X, P_Y, Q_X, R_XX, R_XY, R_YX, SAME, S_XY, both, each, either, no, out, some)

NEVER = no(TRUE)
OTHER = no(SAME)
SOME_P, EACH_P, NO_P = some("x", P_X), each("x", P_X), each("x", no(P_X))
SOME_Q, EACH_Q = some("x", Q_X), each("x", Q_X)
LONE = some("x", each("y", SAME))
# Pairs of which the one follows from the other, but not the other way about.
STRONGER = [
    (MARKED, EACH_P, SOME_P), (MARKED, NEVER, EACH_P), (MARKED, EACH_P, TRUE), (NONE, NEVER, TRUE),
    (TWICE, both(EACH_P, EACH_Q), EACH_P), (TWICE, some("x", both(P_X, Q_X)), both(SOME_P, SOME_Q)),
    (BARE, each("xy", R_XY), out(R_XY)), (BARE, some("x", each("y", R_XY)), each("x", some("y", R_YX))),
    (BARE, out(both(R_XY, OTHER)), out(R_XY)), (BARE, each("x", R_XX), out(R_XY)),
    (BARE, LONE, each("xy", either(R_XY, either(SAME, TRUE)))),
    (BOTH, out(both(R_XY, P_Y)), SOME_P), (BOTH, both(SOME_P, each("xy", SAME)), EACH_P),
    (TIES, out(both(R_XY, S_XY)), out(R_XY)), (NONE, LONE, no(out(both(OTHER, no(OTHER))))),
    # At most one thing is marked, and some thing is; then not two are.
    (MARKED, some("x", both(P_X, each("y", either(no(P_Y), SAME)))), SOME_P),
]
# Pairs of sayings that hold in the same worlds.
SAME_WORLDS = [
    (NONE, TRUE, no(NEVER)), (NONE, LONE, each("xy", SAME)), (NONE, some("xy", OTHER), out(OTHER)),
    (MARKED, SOME_P, some("y", P_Y)), (MARKED, EACH_P, no(some("x", no(P_X)))), (MARKED, NEVER, both(SOME_P, NO_P)),
    (MARKED, TRUE, either(SOME_P, NO_P)), (BARE, out(R_XY), each("y", some("x", R_YX))),
    (BARE, out(R_XY), no(some("x", each("y", no(R_XY))))), (BARE, some("xy", R_XY), some("xy", R_YX)),
    (BARE, each("xy", R_XY), each("xy", R_YX)), (BOTH, some("xy", both(P_X, R_XY)), some("xy", both(P_Y, R_YX))),
    (BARE, out(R_XY), no(no(out(R_XY)))), (TWICE, both(EACH_P, EACH_Q), each("x", both(P_X, Q_X))),
    (TWICE, either(SOME_P, SOME_Q), some("x", either(P_X, Q_X))),
]
# Pairs of which neither follows from the other.
APART = [
    (TWICE, SOME_P, SOME_Q), (MARKED, SOME_P, some("x", no(P_X))), (BARE, out(R_XY), out(R_YX)),
    (BARE, LONE, out(R_XY)),
    (BARE, some("x", R_XX), out(R_XY)), (BOTH, out(R_XY), SOME_P), (NONE, LONE, out(OTHER)),
]


class FollowCase(Case):
    def check_world(self, tongue, world, held, denied):
        """Check that it is a world of the tongue, not too great, in which just these of the sayings hold."""
        self.assertIs(type(world), World)
        self.assertEqual(world.tongue, tongue)
        self.assertLessEqual(world.things, 100)
        self.assertTrue(all(holds(world, saying) for saying in held))
        self.assertFalse(any(holds(world, saying) for saying in denied))

    def parted(self, tongue, one, other):
        """The word of what parts them, looked at; None if nothing does."""
        found = self.tell(parting, tongue, one, other)
        if found is None:
            self.assertIs(check_parting(tongue, one, other, found), False)
            return None
        self.assertEqual((type(found), len(found)), (tuple, 2))
        word, world = found
        sayings = {"one": one, "other": other}
        self.assertIn(word, sayings)
        self.check_world(tongue, world, [sayings.pop(word)], list(sayings.values()))
        self.assertIs(self.tell(check_parting, tongue, one, other, found), True)
        turned = ("one" if word == "other" else "other", world)
        self.assertIs(check_parting(tongue, one, other, turned), False)
        self.assertIs(check_parting(tongue, other, one, turned), True)
        return word

    def has_followed(self, tongue, given, saying):
        """Whether the saying follows; a world that tells otherwise is looked at."""
        found = self.tell(follows, tongue, given, saying)
        self.assertEqual(follows(tongue, tuple(given), saying), found)
        if found is None:
            self.assertIs(check_follows(tongue, given, saying, None), False)
            return True
        self.check_world(tongue, found, given, [saying])
        self.assertIs(self.tell(check_follows, tongue, given, saying, found), True)
        self.assertIs(check_follows(tongue, [*given, saying][:5], saying, found), len(given) == 5)
        return False

    def check_least(self, tongue, given, saying):
        """The least sets from which the saying follows, by asking for all sets."""
        enough = [chosen for many in range(len(given) + 1) for chosen in itertools.combinations(range(len(given)), many)
                  if follows(tongue, [given[at] for at in chosen], saying) is None]
        least = sorted(one for one in enough if not any(set(less) < set(one) for less in enough))
        found = self.tell(least_given, tongue, given, saying)
        self.assertEqual(found, least)
        self.assertTrue(type(found) is list and all(type(one) is tuple for one in found))
        return found


class TestParting(FollowCase):
    def test_the_interface(self):
        names = {parting: "one other", follows: "given saying", least_given: "given saying",
                 check_parting: "one other thing", check_follows: "given saying thing"}
        for function, told in names.items():
            self.assertEqual(function.__module__, "pairsayings.follow")
            self.assertEqual(list(inspect.signature(function).parameters), ["tongue", *told.split()])

    def test_examples_of_the_document(self):
        some_tie = ("each", "x", ("some", "y", ("tie", "r", "x", "y")))
        lone = ("some", "x", ("each", "y", ("same", "x", "y")))
        other = ("each", "x", ("some", "y", ("and", ("tie", "r", "x", "y"), ("not", ("same", "x", "y")))))
        found = (follows(BARE, [other], some_tie) is None,
                 parting(BARE, lone, ("each", "x", ("each", "y", ("same", "x", "y")))) is None)
        self.assertEqual(found, (True, True))

    def test_the_same_worlds(self):
        for tongue, one, other in SAME_WORLDS:
            self.assertIsNone(self.parted(tongue, one, other), (one, other))
            self.assertIsNone(self.parted(tongue, other, one))
            self.assertIsNone(self.parted(tongue, one, one))

    def test_one_is_stronger(self):
        for tongue, one, other in STRONGER:
            self.assertEqual(self.parted(tongue, one, other), "other", (one, other))
            self.assertEqual(self.parted(tongue, other, one), "one")

    def test_neither_is_stronger(self):
        for tongue, one, other in APART:
            self.assertIsNotNone(self.parted(tongue, one, other))
            self.assertIsNotNone(self.parted(tongue, other, one))

    def test_what_holds_nowhere_or_in_few_sizes(self):
        for tongue, saying in NONE_AT_ALL:
            self.assertIsNone(self.parted(tongue, saying, NEVER), saying)
            self.assertEqual(self.parted(tongue, saying, TRUE), "other")
        for tongue, saying, few in FEW:
            self.assertEqual(self.parted(tongue, saying, NEVER), "one" if few else None, saying)
        for tongue, saying, _ in FROM:
            self.assertEqual(self.parted(tongue, saying, NEVER), "one")

    def test_many_sayings(self):
        for tongue in (MARKED, TWICE, BARE, BOTH, TIES, TRIPLE):
            made = Sayings(tongue, 70)
            worlds = all_worlds(tongue, 2)
            for _ in range(120):
                one, other = made.closed(made.random.randint(1, 5)), made.closed(made.random.randint(1, 5))
                inner = places(one)[0] + places(other)[0]
                if inner <= 2 and load(tongue, one, other) <= 4 and places(one)[1] + places(other)[1] <= 4:
                    if self.parted(tongue, one, other) is None:
                        self.assertTrue(all(world.tell(one) == world.tell(other) for world in worlds), (one, other))


class TestFollows(FollowCase):
    def test_of_two(self):
        for tongue, one, other in STRONGER:
            self.assertTrue(self.has_followed(tongue, [one], other), (one, other))
            self.assertFalse(self.has_followed(tongue, [other], one), (one, other))
        for tongue, one, other in SAME_WORLDS:
            self.assertTrue(self.has_followed(tongue, [one], other) and self.has_followed(tongue, [other], one))
        for tongue, one, other in APART:
            self.assertFalse(self.has_followed(tongue, [one], other) or self.has_followed(tongue, [other], one))

    def test_nothing_given(self):
        self.assertTrue(self.has_followed(NONE, [], TRUE))
        self.assertTrue(self.has_followed(MARKED, [], either(SOME_P, some("x", no(P_X)))))
        self.assertTrue(self.has_followed(BARE, [], each("x", some("y", SAME))))
        self.assertFalse(self.has_followed(MARKED, [], SOME_P))
        self.assertFalse(self.has_followed(BARE, [], NEVER))

    def test_a_contradiction_given(self):
        for given in ([NEVER], [SOME_P, NO_P], [NO_P, TRUE, SOME_P]):
            self.assertTrue(self.has_followed(MARKED, given, NEVER))
            self.assertTrue(self.has_followed(MARKED, given, EACH_P))
        self.assertTrue(self.has_followed(NONE, [LONE, no(LONE)], NEVER))
        self.assertTrue(self.has_followed(NONE, [each("xy", SAME), some("xy", OTHER)], LONE))

    def test_from_several(self):
        self.assertTrue(self.has_followed(MARKED, [each("xy", either(no(P_X), P_Y)), SOME_P], EACH_P))
        self.assertFalse(self.has_followed(MARKED, [each("xy", either(no(P_X), P_Y))], EACH_P))
        self.assertTrue(self.has_followed(TWICE, [SOME_P, each("x", either(no(P_X), Q_X))], SOME_Q))
        self.assertFalse(self.has_followed(TWICE, [SOME_Q, each("x", either(no(P_X), Q_X))], SOME_P))
        self.assertTrue(self.has_followed(BOTH, [EACH_P, out(R_XY)], out(both(R_XY, TRUE))))
        self.assertTrue(self.has_followed(TWICE, [EACH_P, EACH_P, EACH_P], SOME_P))

    def test_five_given(self):
        given = [SOME_P, SOME_Q, each("x", either(no(P_X), Q_X)), TRUE, no(NEVER)]
        self.assertTrue(self.has_followed(TWICE, given, some("x", both(P_X, Q_X))))
        self.assertFalse(self.has_followed(TWICE, given, no(TRUE)))
        self.assertFalse(self.has_followed(TWICE, [TRUE] * 5, SOME_P))
        self.assertTrue(self.has_followed(TWICE, [SOME_P] * 5, SOME_P))
        given = [out(both(R_XY, P_Y)), some("x", R_XX), TRUE, TRUE, no(no(TRUE))]
        self.assertTrue(self.has_followed(BOTH, given, SOME_P))
        self.assertFalse(self.has_followed(BOTH, given, EACH_P))

    def test_against_all_small_worlds(self):
        for tongue in (MARKED, TWICE, BARE, BOTH):
            made = Sayings(tongue, 71)
            worlds = all_worlds(tongue, 2) + all_worlds(tongue, 1)
            for _ in range(150):
                given = [made.closed(made.random.randint(1, 4)) for _ in range(made.random.randint(0, 3))]
                saying = made.closed(made.random.randint(1, 4))
                sayings = [*given, saying]
                inner, closed = [sum(column) for column in zip(*[places(one) for one in sayings])]
                if inner <= 2 and load(tongue, *sayings) <= 4 and closed <= 4:
                    if self.has_followed(tongue, given, saying):
                        for world in worlds:
                            self.assertTrue(world.tell(saying) or not all(world.tell(one) for one in given))


class TestLeastGiven(FollowCase):
    def test_by_hand(self):
        rows = [
            (MARKED, [], TRUE, [()]), (MARKED, [], SOME_P, []), (MARKED, [SOME_P, NO_P], TRUE, [()]),
            (MARKED, [SOME_P], EACH_P, []), (MARKED, [EACH_P], SOME_P, [(0,)]),
            (MARKED, [TRUE, EACH_P], SOME_P, [(1,)]),
            (MARKED, [SOME_P, NO_P], NEVER, [(0, 1)]), (MARKED, [NEVER, SOME_P, NO_P], NEVER, [(0,), (1, 2)]),
            (MARKED, [EACH_P, EACH_P], SOME_P, [(0,), (1,)]),
            (MARKED, (EACH_P, SOME_P, SOME_P), SOME_P, [(0,), (1,), (2,)]),
            (TWICE, [SOME_P, each("x", either(no(P_X), Q_X)), EACH_Q], SOME_Q, [(0, 1), (2,)]),
            (TWICE, [EACH_Q, SOME_P, each("x", either(no(P_X), Q_X))], SOME_Q, [(0,), (1, 2)]),
            (TWICE, [EACH_P, EACH_Q, EACH_P, EACH_Q], both(EACH_P, EACH_Q), [(0, 1), (0, 3), (1, 2), (2, 3)]),
            (TWICE, [TRUE, TRUE, TRUE, TRUE, EACH_P], SOME_P, [(4,)]), (TWICE, [SOME_P] * 5, EACH_P, []),
            (MARKED, [SOME_P, EACH_P, no(SOME_P), SOME_P, TRUE], NEVER, [(0, 2), (1, 2), (2, 3)]),
            (BARE, [out(R_XY), LONE], each("x", R_XX), [(0, 1)]), (NONE, [LONE, some("xy", OTHER)], NEVER, [(0, 1)]),
        ]
        for tongue, given, saying, wanted in rows:
            self.assertEqual(self.check_least(tongue, given, saying), wanted, (given, saying))

    def test_the_list_is_new_each_time(self):
        found = least_given(MARKED, [EACH_P], SOME_P)
        found.append(())
        self.assertEqual(least_given(MARKED, [EACH_P], SOME_P), [(0,)])

    def test_many_sayings(self):
        made = Sayings(TWICE, 72)
        for _ in range(40):
            given = [made.closed(2) for _ in range(made.random.randint(0, 5))]
            saying = made.closed(2)
            inner, closed = [sum(column) for column in zip(*[places(one) for one in [*given, saying]])]
            if inner <= 2 and closed <= 4:
                self.check_least(TWICE, given, saying)


class TestJudges(FollowCase):
    ONE, TWO = out(R_XY), out(R_YX)

    def setUp(self):
        # The one saying holds, the other does not.
        self.world = World(BARE, 2, {}, {"r": [(0, 0), (1, 0)]})

    def refuse_parting(self, thing):
        self.assertIs(self.tell(check_parting, BARE, self.ONE, self.TWO, thing), False)

    def refuse_follows(self, thing):
        self.assertIs(self.tell(check_follows, BARE, [self.ONE], self.TWO, thing), False)

    def test_right_ones(self):
        self.assertIs(check_parting(BARE, self.ONE, self.TWO, ("one", self.world)), True)
        self.assertIs(check_parting(BARE, self.TWO, self.ONE, ("other", self.world)), True)
        self.assertIs(check_follows(BARE, (self.ONE,), self.TWO, self.world), True)
        self.assertIs(check_follows(BARE, [], self.TWO, self.world), True)
        self.assertIs(check_follows(BARE, [self.ONE, TRUE, self.ONE, TRUE, no(self.TWO)], self.TWO, self.world), True)
        great = World(BARE, 300, {}, {"r": [(one, 0) for one in range(300)]})
        self.assertIs(check_follows(BARE, [self.ONE], self.TWO, great), True)

    def test_other_words(self):
        for word in ["other", "One", "both", "", "from", None, 0, 1, True, b"one", ("one",), ["one"], {"one": 1}]:
            self.refuse_parting((word, self.world))

    def test_cut_off_longer_and_lists(self):
        for thing in [("one",), (), (self.world,), ("one", self.world, 0), ("one", self.world, self.world),
                      ["one", self.world], (self.world, "one"), self.world, ("one", (self.world,)),
                      ("one", [self.world]), {"one": self.world}, None]:
            self.refuse_parting(thing)
        for thing in [(self.world,), [self.world], ("one", self.world), {0: self.world}, None, (), []]:
            self.refuse_follows(thing)

    def test_other_worlds(self):
        ties = {"r": [(0, 0), (1, 0)]}
        for world in [World(BARE, 2, {}, {"r": [(0, 1), (1, 0)]}), World(BARE, 2, {}, {"r": []}),
                      World(BARE, 2, {}, {"r": [(0, 0), (0, 1)]}),
                      World(Tongue((), ("s",), ()), 2, {}, {"s": ties["r"]}),
                      World(Tongue((), ("r",), ("r",)), 2, {}, ties), World(BOTH, 2, {"p": []}, ties),
                      World(TIES, 2, {}, {"r": ties["r"], "s": []}), World(NONE, 2, {}, {})]:
            self.refuse_parting(("one", world))
            self.refuse_follows(world)

    def test_anything(self):
        for thing in odd_objects():
            self.refuse_parting(thing)
            self.refuse_parting(("one", thing))
            self.refuse_parting((thing, self.world))
            self.refuse_follows(thing)
            self.refuse_follows((thing,))

    def test_great_sayings(self):
        """The judges look at the told world alone: here is more than what the others are asked for."""
        full = Tongue(("p", "q", "o"), ("r", "s"), ())
        sayings = [out(both(R_XY, OTHER)), out(both(S_XY, P_Y)), out(R_YX), each("x", Q_X)]
        pairs = [(one, other) for one in range(4) for other in range(4)]
        world = World(full, 4, {"p": [0, 1, 2], "q": [0, 1, 2, 3], "o": [3]}, {"r": pairs, "s": pairs})
        self.assertIs(check_follows(full, sayings, each("x", ("mark", "o", "x")), world), True)
        self.assertIs(check_parting(full, both(*sayings), out(no(R_XY)), ("one", world)), True)


class TestErrors(FollowCase):
    def calls(self, tongue, given, saying):
        """All calls with a list of given sayings."""
        world = World(NONE, 1, {}, {})
        return [(follows, tongue, given, saying), (least_given, tongue, given, saying),
                (check_follows, tongue, given, saying, world), (check_follows, tongue, given, saying, None)]

    def test_has_functions(self):
        for tongue in (MAPS, TIED_MAPS):
            for given, saying in [([], TRUE), (None, TRUE), ([TRUE] * 6, None), ([None], P_X), ([F_XY], F_XY)]:
                for call in self.calls(tongue, given, saying):
                    self.refuse(HasFunctions, *call)
            for one, other in [(TRUE, TRUE), (None, TRUE), (TRUE, F_XY)]:
                self.refuse(HasFunctions, parting, tongue, one, other)
                self.refuse(HasFunctions, check_parting, tongue, one, other, None)

    def test_no_given(self):
        wrong = [[TRUE] * 6, (TRUE,) * 6, [None] * 6, {0: TRUE}, {}, "", "true", b"", None, 0, True, range(0), iter([])]
        for thing in wrong + [one for one in odd_objects() if not isinstance(one, (list, tuple)) or len(one) > 5]:
            for call in self.calls(BOTH, thing, TRUE) + self.calls(BOTH, thing, None):
                self.refuse(NoGiven, *call)

    def test_given_sayings(self):
        for thing in odd_objects() + [("mark", "q", "x"), ["true"]]:
            for given in ([thing], [TRUE, thing], (TRUE, SOME_P, thing, P_X, None)):
                for call in self.calls(BOTH, given, None):
                    self.refuse(NoSaying, *call)
        for given in ([P_X], [TRUE, R_XY], (TRUE, P_X, None), [P_Y, (), TRUE]):
            for call in self.calls(BOTH, given, None):
                self.refuse(NotClosed, *call)
        for call in self.calls(BOTH, [TRUE, None, P_X], TRUE):
            self.refuse(NoSaying, *call)

    def test_the_saying(self):
        for thing in odd_objects() + [("mark", "q", "x"), ["true"]]:
            for call in self.calls(BOTH, [TRUE], thing):
                self.refuse(NoSaying, *call)
            for function, more in ((parting, []), (check_parting, [None])):
                self.refuse(NoSaying, function, BOTH, thing, P_X, *more)
                self.refuse(NoSaying, function, BOTH, TRUE, thing, *more)
        for saying in (P_X, R_XY, some("y", R_XY)):
            for call in self.calls(BOTH, [], saying):
                self.refuse(NotClosed, *call)
            for function, more in ((parting, []), (check_parting, [None])):
                self.refuse(NotClosed, function, BOTH, saying, None, *more)
                self.refuse(NotClosed, function, BOTH, TRUE, saying, *more)

    def test_the_order_of_errors(self):
        faults = [(0, MAPS, HasFunctions), (1, None, NoGiven), (1, [()], NoSaying), (1, [P_X], NotClosed),
                  (2, None, NoSaying), (2, P_X, NotClosed)]
        for call in self.calls(BOTH, [TRUE], TRUE):
            self.refuse_in_order(call[0], list(call[1:]), faults)
        faults = [(0, MAPS, HasFunctions), (1, None, NoSaying), (1, P_X, NotClosed), (2, (), NoSaying),
                  (2, P_X, NotClosed)]
        self.refuse_in_order(parting, [BOTH, TRUE, TRUE], faults)
        self.refuse_in_order(check_parting, [BOTH, TRUE, TRUE, None], faults)

    def test_what_was_passed_stays(self):
        given = [SOME_P, EACH_P]
        follows(MARKED, given, NO_P)
        least_given(MARKED, given, SOME_P)
        self.refuse(NotClosed, follows, MARKED, given, P_X)
        self.assertEqual(given, [SOME_P, EACH_P])


if __name__ == "__main__":
    unittest.main()
