"""Point 7: numbers and weights of worlds."""

import inspect
import itertools
import unittest
from fractions import Fraction
from math import comb, factorial

from pairsayings.counting import count, weight
from pairsayings.errors import NoSaying, NoThings, NotClosed, NoWeights
from pairsayings.tongues import Tongue
from tests.cases import Case
from tests.listed import (BARE, BOTH, LISTED, MAPS, MARKED, MARKED_MAPS, NONE, TIED_MAPS, TIES, TWICE, Sayings,
                          all_worlds, load, pair, places)
from tests.things import TRUE, nested, odd_objects, of_size
from tests.words import (F_XX, F_XY, F_YX, P_X, P_Y, Q_X, Q_Y, R_XX, R_XY, R_YX, SAME, S_XY, S_YX, both, each, either,
                         no, out, some)

# The greatest number of things for each load.
MOST = {0: 60, 1: 60, 2: 30, 3: 10, 4: 6, 5: 4}
# For each tongue closed sayings of all kinds: with inner parts, with closed ones within, with "same".
HAND = [
    (NONE, [
        TRUE, no(TRUE), each("xy", SAME), some("xy", no(SAME)), out(no(SAME)), some("x", each("y", SAME)),
        both(out(no(SAME)), each("xy", either(SAME, TRUE))),
    ]),
    (MARKED, [
        some("x", P_X), each("y", P_Y), both(some("x", P_X), no(each("x", P_X))), out(both(P_Y, no(SAME))),
        each("x", either(P_X, some("y", both(P_Y, no(SAME))))), some("xy", both(P_X, P_Y, no(SAME))),
        some("x", both(P_X, each("y", either(no(P_Y), SAME)))), each("x", either(no(P_X), some("x", no(P_X)))),
    ]),
    (TWICE, [
        each("x", either(P_X, Q_X)), out(either(both(P_X, Q_Y), SAME)), out(both(P_X, Q_Y)),
        both(some("x", both(P_X, Q_X)), some("x", both(P_X, no(Q_X))), some("x", both(no(P_X), Q_X))),
        some("x", each("y", either(both(P_Y, Q_X), SAME))),
    ]),
    (BARE, [
        out(R_XY), out(R_YX), some("x", R_XX), each("x", no(R_XX)), each("xy", either(no(R_XY), R_YX)),
        out(both(R_XY, no(SAME))), out(both(R_XY, R_YX)), both(out(R_XY), out(R_YX)), some("x", each("y", R_XY)),
        each("x", either(R_XX, some("y", both(R_XY, ("tie", "r", "y", "y"))))),
        out(both(R_XY, each("x", either(R_YX, SAME)))), out(both(R_XY, some("x", both(R_YX, no(R_XX))))),
        each("x", either(some("y", both(R_XY, R_YX)), no(some("x", R_XX)))), out(both(R_XY, some("x", R_XX))),
        each("xy", either(SAME, either(both(R_XY, no(R_YX)), both(R_YX, no(R_XY))))),
        both(some("x", no(some("y", R_XY))), some("y", no(some("x", R_XY)))),
    ]),
    (BOTH, [
        out(both(R_XY, P_Y)), each("x", either(P_X, some("y", both(R_XY, P_Y)))),
        each("xy", either(no(R_XY), either(P_X, P_Y))), both(some("x", P_X), out(either(R_XY, P_X))),
        some("x", both(P_X, R_XX, each("y", either(no(R_XY), SAME)))),
        out(both(R_XY, no(P_Y), each("x", either(P_X, no(R_YX))))),
    ]),
    (TIES, [
        each("xy", either(no(R_XY), S_YX)), out(both(R_XY, S_XY)), both(out(R_XY), out(S_YX)),
        some("x", each("y", either(R_XY, S_YX))), out(both(R_XY, no(S_XY), no(SAME))),
    ]),
    (MAPS, [
        TRUE, out(F_YX), each("x", no(F_XX)), some("x", F_XX), each("xy", either(no(F_XY), F_YX)),
        out(both(F_XY, no(SAME))), some("x", each("y", F_YX)), some("x", each("y", no(F_YX))),
        out(both(F_XY, ("tie", "f", "y", "y"))), each("x", some("y", both(F_XY, some("x", both(F_YX, F_XX))))),
    ]),
    (MARKED_MAPS, [
        each("xy", either(no(both(F_XY, P_X)), P_Y)), out(both(F_XY, P_Y)), both(some("x", P_X), out(F_YX)),
        each("x", either(P_X, some("y", both(F_YX, P_Y)))), some("x", both(P_X, F_XX)),
    ]),
    (TIED_MAPS, [
        each("xy", either(no(F_XY), R_XY)), out(both(F_XY, R_YX)), out(both(R_XY, no(F_XY))),
        both(out(F_YX), some("x", R_XX)),
    ]),
]


def listed_weight(worlds, saying, weights):
    """The sum of the weights of those of the worlds in which the saying holds."""
    return pair(sum([world.weight(weights) for world in worlds if world.tell(saying)], Fraction(0)))


class CountingCase(Case):
    def check(self, tongue, saying, things, number):
        """Check how many worlds there are, in how many the denied saying holds, and that both are all worlds."""
        self.assertLessEqual(things, MOST[load(tongue, saying)])
        found = self.tell(count, tongue, saying, things)
        self.assertEqual(found, number)
        self.assertIs(type(found), int)
        every = count(tongue, TRUE, things)
        self.assertEqual(count(tongue, no(saying), things), every - number)
        self.assertEqual(self.tell(weight, tongue, saying, things, {}), (number, 1))


class TestCountByHand(CountingCase):
    def test_the_interface(self):
        names = ["tongue", "saying", "things", "weights"]
        for function, told in ((count, names[:3]), (weight, names)):
            self.assertEqual(function.__module__, "pairsayings.counting")
            self.assertEqual(list(inspect.signature(function).parameters), told)

    def test_examples_of_the_document(self):
        some_tie = ("each", "x", ("some", "y", ("tie", "r", "x", "y")))
        found = (count(BARE, some_tie, 2), count(BARE, some_tie, 3), count(BARE, some_tie, 20) == (2 ** 20 - 1) ** 20)
        self.assertEqual(found, (9, 343, True))
        onto = ("each", "x", ("some", "y", ("tie", "f", "y", "x")))
        found = (count(MAPS, TRUE, 3), count(MAPS, ("each", "x", ("not", ("tie", "f", "x", "x"))), 3),
                 count(MAPS, onto, 4))
        self.assertEqual(found, (27, 8, 24))
        self.assertEqual(weight(MARKED, ("some", "x", ("mark", "p", "x")), 2, {"p": (1, 2)}), (5, 4))

    def test_all_worlds(self):
        for things in (1, 2, 7, 59, 60):
            self.check(NONE, TRUE, things, 1)
            self.check(MARKED, TRUE, things, 2 ** things)
            self.check(BARE, TRUE, things, 2 ** things ** 2)
        for things in (1, 2, 30):
            self.check(TWICE, TRUE, things, 4 ** things)
            self.check(BOTH, TRUE, things, 2 ** (things + things ** 2))
            self.check(TIES, TRUE, things, 4 ** things ** 2)
        for things in range(1, 11):
            self.check(MAPS, TRUE, things, things ** things)
            self.check(Tongue(("p", "q"), ("r",), ()), TRUE, things, 4 ** things * 2 ** things ** 2)
        for things in (1, 2, 6):
            self.check(MARKED_MAPS, TRUE, things, 2 ** things * things ** things)
            self.check(TIED_MAPS, TRUE, things, 2 ** things ** 2 * things ** things)
        for things in (1, 2, 3, 4):
            self.check(Tongue(("p", "q", "o"), ("r", "s"), ()), TRUE, things, 8 ** things * 4 ** things ** 2)
            self.check(Tongue(("p", "q"), ("f",), ("f",)), TRUE, things, 4 ** things * things ** things)
            self.check(Tongue(("p",), ("r", "f"), ("f",)), TRUE, things, 2 ** (things + things ** 2) * things ** things)

    def test_closed_sayings_without_inner_parts(self):
        for things in (1, 2, 3, 60):
            self.check(MARKED, some("x", P_X), things, 2 ** things - 1)
            self.check(MARKED, each("x", P_X), things, 1)
            self.check(MARKED, both(some("x", P_X), some("y", no(P_Y))), things, 2 ** things - 2)
            self.check(BARE, each("x", no(R_XX)), things, 2 ** (things * (things - 1)))
            self.check(BARE, some("x", R_XX), things, 2 ** things ** 2 - 2 ** (things * (things - 1)))
        for things in (1, 2, 30):
            self.check(TWICE, each("x", either(P_X, Q_X)), things, 3 ** things)
            self.check(TWICE, some("x", both(P_X, Q_X)), things, 4 ** things - 3 ** things)

    def test_one_inner_part_of_no_marks_and_ties(self):
        for things in (1, 2, 3, 59, 60):
            self.check(NONE, out(no(SAME)), things, 0 if things == 1 else 1)
            self.check(NONE, each("xy", SAME), things, 1 if things == 1 else 0)
            self.check(NONE, some("xy", both(SAME, TRUE)), things, 1)

    def test_load_of_2_with_30_things(self):
        for things in (1, 2, 3, 10, 30):
            halves = things * (things - 1) // 2
            self.check(BARE, out(R_XY), things, (2 ** things - 1) ** things)
            self.check(BARE, out(R_YX), things, (2 ** things - 1) ** things)
            self.check(BARE, out(both(R_XY, no(SAME))), things, (2 ** things - 2) ** things)
            self.check(BARE, each("xy", either(no(R_XY), R_YX)), things, 2 ** (halves + things))
            self.check(BARE, each("xy", either(SAME, either(both(R_XY, no(R_YX)), both(R_YX, no(R_XY))))), things,
                       2 ** (halves + things))
            self.check(BARE, each("xy", either(no(both(R_XY, R_YX)), SAME)), things, 3 ** halves * 2 ** things)
            self.check(BARE, some("x", each("y", R_XY)), things, 2 ** things ** 2 - (2 ** things - 1) ** things)
            self.check(MARKED, out(both(P_Y, no(SAME))), things, 2 ** things - 1 - things)
            self.check(MARKED, some("x", both(P_X, each("y", either(no(P_Y), SAME)))), things, things)

    def test_load_of_3_with_10_things(self):
        for things in (1, 2, 3, 9, 10):
            ways = [comb(things,
                         many) * (-1) ** many * (2 ** (things - many) - 1) ** things for many in range(things + 1)]
            self.check(BARE, both(out(R_XY), out(R_YX)), things, sum(ways))
            ways = [comb(things,
                         many) * ((2 ** many - 1) * 2 ** (things - many)) ** things for many in range(things + 1)]
            self.check(BOTH, out(both(R_XY, P_Y)), things, sum(ways))
            self.check(TIES, each("xy", either(no(R_XY), S_YX)), things, 3 ** things ** 2)
            self.check(TIES, out(both(R_XY, S_YX)), things, (4 ** things - 3 ** things) ** things)
            self.check(MAPS, each("x", no(F_XX)), things, (things - 1) ** things)
            self.check(MAPS, some("x", F_XX), things, things ** things - (things - 1) ** things)

    def test_load_of_4_with_6_things(self):
        for things in (1, 2, 3, 5, 6):
            self.check(MAPS, out(F_YX), things, factorial(things))
            self.check(MAPS, each("xy", either(no(F_XY), F_YX)), things, [1, 2, 4, 10, 26, 76][things - 1])
            self.check(MAPS, both(each("x", no(F_XX)), out(F_YX)), things, [0, 1, 2, 9, 44, 265][things - 1])
            self.check(MAPS, some("x", each("y", F_YX)), things, things)
            self.check(TIES, both(out(R_XY), out(S_YX)), things, (2 ** things - 1) ** (2 * things))
            self.check(MARKED_MAPS, some("x", both(P_X, F_XX)), things,
                       (2 * things) ** things - (2 * things - 1) ** things)
            self.check(TIED_MAPS, TRUE, things, things ** things * 2 ** things ** 2)
            ways = [comb(things,
                         many) * (-1) ** many * (2 ** (things - many) - 1) ** things for many in range(things + 1)]
            linked = either(R_XY, either(R_YX, SAME))
            self.check(BARE, both(out(R_XY), out(R_YX), either(each("xy", linked), TRUE)), things, sum(ways))

    def test_load_of_5_with_4_things(self):
        for things in (1, 2, 3, 4):
            self.check(TIED_MAPS, out(R_XY), things, things ** things * (2 ** things - 1) ** things)
            self.check(TIED_MAPS, each("xy", either(no(F_XY), R_XY)), things, (things * 2 ** (things - 1)) ** things)
            self.check(MARKED_MAPS, out(both(F_XY, P_Y)), things,
                       sum([comb(things, many) * many ** things for many in range(things + 1)]))
            self.check(MARKED_MAPS, both(some("x", P_X), out(F_YX)), things, factorial(things) * (2 ** things - 1))
            self.check(MAPS, both(out(F_YX), each("xy", either(no(F_XY), F_YX))), things, [1, 2, 4, 10][things - 1])
            self.check(TIES, both(out(R_XY), out(S_XY), out(both(R_XY, S_XY))), things,
                       (4 ** things - 3 ** things) ** things)

    def test_six_closed_sayings(self):
        for things in (1, 2, 3, 4, 30):
            kinds = [both(P_X, Q_X), both(P_X, no(Q_X)), both(no(P_X), Q_X), both(no(P_X), no(Q_X))]
            saying = both(*[some("x", kind) for kind in kinds], either(some("x", P_X), each("x", Q_X)))
            self.assertEqual(places(saying), (0, 6))
            onto = sum([comb(4, many) * (-1) ** many * (4 - many) ** things for many in range(4)])
            self.check(TWICE, saying, things, onto)

    def test_closed_sayings_in_inner_parts(self):
        for things in (1, 2, 3, 10, 30):
            # With a tie to itself somewhere nothing is asked, else each thing has a tie.
            saying = each("x", either(some("x", R_XX), some("y", R_XY)))
            without = 2 ** (things * (things - 1))
            self.check(BARE, saying, things, 2 ** things ** 2 - without + (2 ** (things - 1) - 1) ** things)

    def test_the_same_number_written_otherwise(self):
        for things in (1, 2, 5, 10):
            self.assertEqual(count(BARE, out(R_XY), things), count(BARE, each("y", some("x", R_YX)), things))
            self.assertEqual(count(BARE, out(R_XY), things), count(BARE, no(some("x", each("y", no(R_XY)))), things))
            self.assertEqual(count(BARE, out(R_XY), things), count(BARE, no(no(out(R_XY))), things))

    def test_a_name_plays_no_role(self):
        for name in ("a", "tie", "same", "xy", "zzzzzz"):
            tongue = Tongue((), (name,), ())
            self.assertEqual(count(tongue, out(("tie", name, "x", "y")), 5), 31 ** 5)
            self.assertEqual(count(Tongue((name,), (), ()), some("x", ("mark", name, "x")), 5), 31)


class TestAgainstAllWorlds(CountingCase):
    def test_by_hand(self):
        for (tongue, most), (told, sayings) in zip(LISTED, HAND):
            self.assertEqual(tongue, told)
            for things in range(1, most + 1):
                worlds = all_worlds(tongue, things)
                for saying in sayings:
                    number = sum([world.tell(saying) for world in worlds])
                    self.assertEqual(count(tongue, saying, things), number, (tongue.marks, tongue.ties, saying))
                    self.assertEqual(count(tongue, no(saying), things), len(worlds) - number)

    def test_many_sayings(self):
        for tongue, most in LISTED:
            made = Sayings(tongue, 7)
            for things in range(1, most + 1):
                worlds = all_worlds(tongue, things)
                for _ in range(60 if len(worlds) < 100 else 25):
                    saying, weights = made.closed(made.random.randint(2, 5)), made.weights()
                    if load(tongue, saying) > 5 or places(saying)[1] > 6:
                        continue
                    self.assertEqual(weight(tongue, saying, things, weights), listed_weight(worlds, saying, weights),
                                     (tongue.marks, tongue.ties, saying, weights))

    def test_each_of_some_weights(self):
        fractions = [(0, 1), (1, 1), (1, 3), (4, 1), (7, 4)]
        for (tongue, most), (_, sayings) in zip(LISTED, HAND):
            things = min(most, 2)
            worlds = all_worlds(tongue, things)
            names = tongue.marks + tongue.ties
            for chosen in itertools.product([None, *fractions], repeat=len(names)):
                weights = {name: one for name, one in zip(names, chosen) if one is not None}
                for saying in sayings[:3]:
                    wanted = listed_weight(worlds, saying, weights)
                    self.assertEqual(self.tell(weight, tongue, saying, things, weights), wanted)


class TestWeight(CountingCase):
    def test_without_weights(self):
        self.assertEqual(weight(BARE, out(R_XY), 3, {}), (343, 1))
        self.assertEqual(weight(BARE, out(R_XY), 3, {"r": (1, 1)}), (343, 1))
        self.assertEqual(weight(BARE, no(TRUE), 3, {"r": (1, 2)}), (0, 1))

    def test_marks_and_ties(self):
        for things in (1, 2, 5, 60):
            self.assertEqual(weight(MARKED, TRUE, things, {"p": (1, 2)}), (3 ** things, 2 ** things))
            self.assertEqual(weight(MARKED, each("x", P_X), things, {"p": (2, 3)}), (2 ** things, 3 ** things))
            self.assertEqual(weight(MARKED, TRUE, things, {"p": (5, 1)}), (6 ** things, 1))
            self.assertEqual(weight(BARE, TRUE, things, {"r": (1, 2)}), pair(Fraction(3, 2) ** things ** 2))
            self.assertEqual(weight(BARE, each("x", no(R_XX)), things, {"r": (3, 1)}),
                             (4 ** (things * (things - 1)), 1))
        for things in (1, 2, 30):
            wanted = (Fraction(8, 5) ** things - 1) ** things
            self.assertEqual(weight(BARE, out(R_XY), things, {"r": (3, 5)}), pair(wanted))

    def test_a_weight_of_0(self):
        for things in (1, 2, 60):
            self.assertEqual(weight(MARKED, TRUE, things, {"p": (0, 1)}), (1, 1))
            self.assertEqual(weight(MARKED, some("x", P_X), things, {"p": (0, 1)}), (0, 1))
            self.assertEqual(weight(BARE, TRUE, things, {"r": (0, 1)}), (1, 1))
        self.assertEqual(weight(MAPS, TRUE, 4, {"f": (0, 1)}), (0, 1))

    def test_a_function_has_as_many_pairs_as_things(self):
        for things in (1, 2, 3, 10):
            self.assertEqual(weight(MAPS, TRUE, things, {"f": (2, 3)}), pair(Fraction(2 * things, 3) ** things))
        for things in (1, 4, 6):
            self.assertEqual(weight(MAPS, out(F_YX), things, {"f": (5, 2)}),
                             pair(factorial(things) * Fraction(5, 2) ** things))
            wanted = Fraction(3, 4) ** things * things ** things * Fraction(3, 2) ** things ** 2
            self.assertEqual(weight(TIED_MAPS, TRUE, things, {"f": (3, 4), "r": (1, 2)}), pair(wanted))

    def test_some_of_the_names(self):
        self.assertEqual(weight(BOTH, TRUE, 3, {"p": (1, 2)}), pair(Fraction(3, 2) ** 3 * 2 ** 9))
        self.assertEqual(weight(BOTH, TRUE, 3, {"r": (1, 2)}), pair(Fraction(3, 2) ** 9 * 2 ** 3))
        self.assertEqual(weight(BOTH, TRUE, 3, {"r": (1, 2), "p": (1, 2)}), pair(Fraction(3, 2) ** 12))
        self.assertEqual(weight(BOTH, TRUE, 3, {"p": (1, 2), "r": (1, 2)}), pair(Fraction(3, 2) ** 12))

    def test_great_weights(self):
        top, bottom = 10 ** 40 + 1, 10 ** 30
        self.assertEqual(weight(MARKED, TRUE, 60, {"p": (top, bottom)}), pair((1 + Fraction(top, bottom)) ** 60))

    def test_a_saying_and_the_denied_one_add_up(self):
        for (tongue, _), (_, sayings) in zip(LISTED, HAND):
            made = Sayings(tongue, 9)
            for saying in sayings:
                things, weights = MOST[min(5, load(tongue, saying))] // 2, made.weights()
                if load(tongue, saying) > 5:
                    continue
                every = Fraction(*weight(tongue, TRUE, things, weights))
                one = Fraction(*weight(tongue, saying, things, weights))
                other = Fraction(*weight(tongue, no(saying), things, weights))
                self.assertEqual(one + other, every)
                self.assertGreaterEqual(one, 0)

    def test_fractions(self):
        found = weight(MARKED, some("x", P_X), 2, {"p": (1, 2)})
        self.assertIs(type(found), tuple)
        self.assertEqual([type(one) for one in found], [int, int])

    def test_the_dict_stays_as_it_is(self):
        weights = {"r": (1, 2)}
        weight(BOTH, out(R_XY), 2, weights)
        self.assertEqual(weights, {"r": (1, 2)})
        self.refuse(NoThings, weight, BOTH, TRUE, 0, weights)
        self.assertEqual(weights, {"r": (1, 2)})


class TestErrors(CountingCase):
    def test_no_saying(self):
        wrong = [("mark", "q", "x"), ("tie", "p", "x", "y"), ["true"], ("some", "x"), (), of_size(101),
                 nested(20, lambda one: ("not", one), TRUE), both(P_X, ("mark", "q", "x"))]
        for at, thing in enumerate(odd_objects() + wrong):
            with self.subTest(at=at):
                self.refuse(NoSaying, count, BOTH, thing, 2)
                self.refuse(NoSaying, weight, BOTH, thing, 2, {})

    def test_not_closed(self):
        for saying in [P_X, P_Y, R_XY, SAME, ("same", "y", "y"), some("y", R_XY), both(TRUE, R_XX), each("x", P_Y)]:
            self.refuse(NotClosed, count, BOTH, saying, 2)
            self.refuse(NotClosed, weight, BOTH, saying, 2, {})

    def test_no_things(self):
        wrong = [0, 61, -1, 62, 300, 2 ** 70, True, False, None, "1", b"1", "", (1,), [1], {1: 1}]
        wrong += [one for one in odd_objects() if not (type(one) is int and 1 <= one <= 60)]
        for at, thing in enumerate(wrong):
            with self.subTest(at=at):
                self.refuse(NoThings, count, NONE, TRUE, thing)
                self.refuse(NoThings, weight, NONE, TRUE, thing, {})
        self.assertEqual((count(NONE, TRUE, 1), count(NONE, TRUE, 60)), (1, 1))

    def test_no_fractions(self):
        wrong = [(2, 4), (3, 3), (0, 2), (0, 60), (10 ** 30, 10 ** 29), (-1, 2), (-1, 1), (1, 0), (0, 0), (1, -2),
                 (-1, -2),
                 (True, 1), (1, True), (False, 1), (0, True), (None, 1), (1, None), ("1", 2), (1, "2"), (b"1", 2),
                 ((1,), 2),
                 [1, 2], (1,), (1, 2, 1), (), 1, 0, "1/2", "12", b"12", None, True, {1: 2, 2: 1}, ((1, 2),),
                 Fraction(1, 2)]
        for at, thing in enumerate(wrong + odd_objects()):
            with self.subTest(at=at):
                for name in ("p", "r"):
                    self.refuse(NoWeights, weight, BOTH, TRUE, 2, {name: thing})
                self.refuse(NoWeights, weight, BOTH, TRUE, 2, {"p": (1, 2), "r": thing})
                self.refuse(NoWeights, weight, BOTH, TRUE, 2, {"r": thing, "p": (1, 2)})
                self.refuse(NoWeights, weight, MAPS, TRUE, 2, {"f": thing})

    def test_no_names(self):
        for name in ["q", "x", "y", "true", "", "P", "pp", "red", b"q", b"x", 0, 1, None, True, ("p",), ("p", "r"), (),
                     NoThings]:
            self.refuse(NoWeights, weight, BOTH, TRUE, 2, {name: (1, 1)})
            self.refuse(NoWeights, weight, BOTH, TRUE, 2, {"r": (1, 2), name: (1, 1)})
            self.refuse(NoWeights, weight, NONE, TRUE, 2, {name: (1, 1)})

    def test_no_dicts(self):
        wrong = [[], (), [("p", (1, 2))], (("p", (1, 2)),), "p", "", 0, None, False, ["p"], (1, 2), (1, 1)]
        for at, thing in enumerate(wrong + odd_objects()):
            with self.subTest(at=at):
                self.refuse(NoWeights, weight, BOTH, TRUE, 2, thing)
        for thing in wrong:
            self.refuse(NoWeights, weight, NONE, TRUE, 2, thing)

    def test_the_order_of_errors(self):
        faults = [(1, None, NoSaying), (1, P_X, NotClosed), (2, 0, NoThings), (3, {"p": (2, 2)}, NoWeights)]
        self.refuse_in_order(weight, [BOTH, TRUE, 2, {}], faults)
        self.refuse_in_order(count, [BOTH, TRUE, 2], faults[:3])
        self.refuse_in_order(weight, [BOTH, out(R_XY), 2, {}], [(1, both(P_X, Q_X), NoSaying), (2, True, NoThings),
                                                                (3, [], NoWeights)])


if __name__ == "__main__":
    unittest.main()
