"""Points 8 and 9: chances, rows, means and spreads."""

import inspect
import itertools
import unittest
from fractions import Fraction
from math import comb

from pairsayings.chances import chance, mean, mean_pairs, row, spread
from pairsayings.counting import weight
from pairsayings.errors import NoChance, NoPart, NoSaying, NoThings, NotClosed, NoWeights
from tests.cases import Case
from tests.listed import (BARE, BOTH, LISTED, MAPS, MARKED, NONE, TIED_MAPS, TIES, TWICE, Sayings, all_worlds, load,
                          pair, places)
from tests.things import TRUE, nested, odd_objects, of_size
from tests.words import (F_XX, F_XY, F_YX, P_X, P_Y, Q_X, Q_Y, R_XX, R_XY, R_YX, SAME, S_YX, both, each, either, no,
                         out, some)

NEVER = no(TRUE)
FUNCTIONS = {
    chance: ["tongue", "saying", "given", "things", "weights"],
    row: ["tongue", "saying", "part", "things", "weights"],
    mean: ["tongue", "part", "given", "things", "weights"],
    spread: ["tongue", "part", "given", "things", "weights"],
    mean_pairs: ["tongue", "link", "given", "things", "weights"],
}
# What divides by the weight of what is given.
DIVIDING = [chance, mean, spread, mean_pairs]


class Reckoned:
    """All worlds in which something is given, with weights, and what is asked of them."""

    def __init__(self, worlds, given, weights):
        self.worlds = [(world, world.weight(weights)) for world in worlds if world.tell(given)]
        self.whole = sum([one for _, one in self.worlds], Fraction(0))

    def mean(self, number):
        """The mean of a number that a function tells of each world."""
        return sum([number(world) * one for world, one in self.worlds], Fraction(0)) / self.whole

    def row(self, part, things):
        """The weights of the worlds, by the number of things of the part."""
        found = [Fraction(0)] * (things + 1)
        for world, one in self.worlds:
            found[world.things_of(part)] += one
        return [pair(one) for one in found]


class ChancesCase(Case):
    def check(self, worlds, tongue, sayings, things, weights):
        """Check all functions against the worlds listed one by one."""
        saying, given, part, link = sayings
        told = (tongue.marks, tongue.ties, sayings, things, weights)
        known = Reckoned(worlds, given, weights)
        self.assertEqual(row(tongue, given, part, things, weights), known.row(part, things), told)
        if known.whole == 0:
            for function, asked in ((chance, saying), (mean, part), (spread, part), (mean_pairs, link)):
                self.refuse(NoChance, function, tongue, asked, given, things, weights)
            return
        self.assertEqual(chance(tongue, saying, given, things, weights),
                         pair(known.mean(lambda one: one.tell(saying))), told)
        first = known.mean(lambda one: one.things_of(part))
        second = known.mean(lambda one: one.things_of(part) ** 2)
        self.assertEqual(mean(tongue, part, given, things, weights), pair(first), told)
        self.assertEqual(spread(tongue, part, given, things, weights), pair(second - first ** 2), told)
        pairs = known.mean(lambda one: one.pairs_of(link))
        self.assertEqual(mean_pairs(tongue, link, given, things, weights), pair(pairs), told)


class TestInterface(Case):
    def test_names(self):
        for function, names in FUNCTIONS.items():
            self.assertEqual(function.__module__, "pairsayings.chances")
            self.assertEqual(list(inspect.signature(function).parameters), names)

    def test_examples_of_the_document(self):
        some_tie = ("each", "x", ("some", "y", ("tie", "r", "x", "y")))
        red = ("mark", "p", "x")
        found = chance(MARKED, ("some", "x", red), TRUE, 3, {}), row(MARKED, TRUE, red, 2, {"p": (1, 2)})
        self.assertEqual(found, ((7, 8), [(1, 1), (1, 1), (1, 4)]))
        found = mean(MARKED, red, TRUE, 4, {}), spread(MARKED, red, TRUE, 4, {})
        self.assertEqual(found, ((2, 1), (1, 1)))
        self.assertEqual(mean_pairs(BARE, ("tie", "r", "x", "y"), some_tie, 2, {}), (8, 3))


class TestAgainstAllWorlds(ChancesCase):
    def test_many_sayings(self):
        for tongue, most in LISTED:
            made = Sayings(tongue, 21)
            for things in range(1, most + 1):
                worlds = all_worlds(tongue, things)
                for _ in range(40 if len(worlds) < 100 else 12):
                    deep = made.random.randint(1, 4)
                    sayings = [made.closed(deep), made.closed(deep), made.part(deep), made.any(deep)]
                    if load(tongue, *sayings) <= 7 and sum(places(one)[1] for one in sayings) <= 8:
                        self.check(worlds, tongue, sayings, things, made.weights())

    def test_by_hand(self):
        rows = [
            (MARKED, {"p": (2, 5)}, [some("x", P_X), some("x", no(P_X)), P_X, SAME]),
            (MARKED, {}, [each("x", P_X), TRUE, some("y", both(P_Y, no(SAME))), both(P_X, no(P_Y))]),
            (TWICE, {"q": (3, 1)}, [each("x", either(P_X, Q_X)), some("x", Q_X), both(P_X, no(Q_X)), both(P_X, Q_Y)]),
            (TWICE, {}, [some("x", P_X), TRUE, both(P_X, no(Q_X), some("y", Q_Y)), both(no(Q_X), some("x", Q_X))]),
            (BARE, {"r": (1, 3)}, [out(R_XY), some("x", R_XX), some("y", R_XY), R_XY]),
            (BARE, {}, [out(R_YX), out(R_XY), R_XX, both(R_XY, R_YX)]),
            (BARE, {"r": (2, 1)}, [some("x", R_XX), out(both(R_XY, no(SAME))), each("y", either(R_XY, SAME)),
                                   some("y", R_XY)]),
            (BOTH, {"p": (1, 2), "r": (3, 1)}, [out(both(R_XY, P_Y)), some("x", P_X), both(P_X, some("y", R_YX)),
                                                both(R_XY, P_Y)]),
            (TIES, {"s": (1, 2)}, [out(R_XY), some("x", R_XX), some("y", S_YX), both(R_XY, S_YX)]),
            (MAPS, {"f": (2, 3)}, [out(F_YX), some("x", F_XX), F_XX, both(F_XY, F_YX)]),
            (MAPS, {}, [some("x", F_XX), out(F_YX), some("y", both(F_YX, no(SAME))), F_YX]),
            (TIED_MAPS, {"f": (1, 2), "r": (3, 2)}, [some("x", F_XX), out(R_XY), some("y", F_YX), both(F_XY, R_YX)]),
        ]
        sizes = {names: most for (tongue, most) in LISTED for names in [(tongue.marks, tongue.ties)]}
        for tongue, weights, sayings in rows:
            for things in range(1, sizes[(tongue.marks, tongue.ties)] + 1):
                worlds = all_worlds(tongue, things)
                for one in (weights, {}):
                    self.check(worlds, tongue, sayings, things, one)

    def test_closed_parts(self):
        for part in (TRUE, NEVER, some("x", P_X), each("y", P_Y), either(some("x", P_X), NEVER)):
            for things in (1, 2, 3):
                worlds = all_worlds(MARKED, things)
                self.check(worlds, MARKED, [part, TRUE, part, part], things, {"p": (1, 2)})
                self.check(worlds, MARKED, [part, some("y", no(P_Y)), part, part], things, {})


class TestChance(ChancesCase):
    def test_known_chances(self):
        for things in (1, 2, 10, 30):
            self.assertEqual(self.tell(chance, BARE, out(R_XY), TRUE, things, {}),
                             pair((1 - Fraction(1, 2 ** things)) ** things))
            self.assertEqual(chance(BARE, TRUE, out(R_XY), things, {}), (1, 1))
            self.assertEqual(chance(BARE, NEVER, out(R_XY), things, {}), (0, 1))
        for things in (1, 2, 60):
            self.assertEqual(chance(MARKED, each("x", P_X), some("x", P_X), things, {}), (1, 2 ** things - 1))
            self.assertEqual(chance(MARKED, each("x", P_X), TRUE, things, {"p": (3, 1)}), (3 ** things, 4 ** things))
        self.assertEqual(chance(MAPS, out(F_YX), TRUE, 6, {}), pair(Fraction(720, 6 ** 6)))
        self.assertEqual(chance(MAPS, each("x", no(F_XX)), TRUE, 10, {"f": (7, 9)}), pair(Fraction(9, 10) ** 10))
        self.assertEqual(chance(MAPS, each("x", no(F_XX)), out(F_YX), 6, {}), pair(Fraction(265, 720)))

    def test_a_saying_and_the_denied_one(self):
        for given in (TRUE, some("x", R_XX), out(R_YX)):
            one = Fraction(*chance(BARE, out(R_XY), given, 6, {"r": (1, 5)}))
            other = Fraction(*chance(BARE, no(out(R_XY)), given, 6, {"r": (1, 5)}))
            self.assertEqual(one + other, 1)

    def test_the_given_saying_itself(self):
        for saying in (TRUE, some("x", P_X), out(R_XY), each("x", either(P_X, R_XX))):
            self.assertEqual(chance(BOTH, saying, saying, 3, {"p": (1, 2)}), (1, 1))
            self.assertEqual(chance(BOTH, no(saying), saying, 3, {"p": (1, 2)}), (0, 1))


class TestRow(ChancesCase):
    def test_known_rows(self):
        for things in (1, 2, 60):
            wanted = [(comb(things, many), 1) for many in range(things + 1)]
            self.assertEqual(self.tell(row, MARKED, TRUE, P_X, things, {}), wanted)
            wanted = [pair(Fraction(comb(things, many) * 2 ** many, 3 ** many)) for many in range(things + 1)]
            self.assertEqual(row(MARKED, TRUE, P_X, things, {"p": (2, 3)}), wanted)
        for things in (1, 2, 10, 30):
            wanted = [(comb(things, many) * (2 ** things - 1) ** many, 1) for many in range(things + 1)]
            self.assertEqual(row(BARE, TRUE, some("y", R_XY), things, {}), wanted)
            self.assertEqual(row(BARE, TRUE, some("y", R_YX), things, {}), wanted)
        for things in (1, 2, 10):
            wanted = [(comb(things, many) * (things - 1) ** (things - many), 1) for many in range(things + 1)]
            self.assertEqual(row(MAPS, TRUE, F_XX, things, {}), wanted)
        # How many maps of six things lead to so many of them.
        self.assertEqual(row(MAPS, TRUE, some("y", F_YX), 6, {}),
                         [(0, 1), (6, 1), (930, 1), (10800, 1), (23400, 1), (10800, 1), (720, 1)])

    def test_what_holds_nowhere(self):
        self.assertEqual(row(MARKED, NEVER, P_X, 3, {}), [(0, 1)] * 4)
        self.assertEqual(row(MARKED, some("x", P_X), P_X, 2, {"p": (0, 1)}), [(0, 1)] * 3)

    def test_it_adds_up_to_the_weight(self):
        made = Sayings(BOTH, 4)
        for _ in range(60):
            saying, part, weights = made.closed(4), made.part(4), made.weights()
            if load(BOTH, saying, part) <= 4 and places(saying)[1] + places(part)[1] <= 6:
                found = row(BOTH, saying, part, 6, weights)
                self.assertEqual(len(found), 7)
                self.assertEqual(pair(sum([Fraction(*one) for one in found])), weight(BOTH, saying, 6, weights))

    def test_of_the_denied_part_it_is_turned_about(self):
        part = some("y", both(R_XY, P_Y))
        found = row(BOTH, some("x", P_X), part, 5, {"p": (1, 2)})
        self.assertEqual(row(BOTH, some("x", P_X), no(part), 5, {"p": (1, 2)}), found[::-1])

    def test_the_list_is_new_each_time(self):
        found = row(MARKED, TRUE, P_X, 2, {})
        self.assertIs(type(found), list)
        self.assertTrue(all(type(one) is tuple for one in found))
        found.append((1, 1))
        found[0] = None
        self.assertEqual(row(MARKED, TRUE, P_X, 2, {}), [(1, 1), (2, 1), (1, 1)])


class TestMeans(ChancesCase):
    def test_known_means(self):
        for things in (1, 2, 60):
            self.assertEqual(self.tell(mean, MARKED, P_X, TRUE, things, {"p": (2, 3)}), pair(Fraction(2 * things, 5)))
            self.assertEqual(self.tell(spread, MARKED, P_X, TRUE, things, {"p": (2, 3)}),
                             pair(Fraction(6 * things, 25)))
            self.assertEqual(mean(MARKED, P_X, some("x", P_X), things, {}),
                             pair(Fraction(things * 2 ** things, 2 * (2 ** things - 1))))
        for things in (1, 2, 30):
            some_chance = 1 - Fraction(1, 2 ** things)
            self.assertEqual(mean(BARE, some("y", R_XY), TRUE, things, {}), pair(things * some_chance))
            self.assertEqual(spread(BARE, some("y", R_XY), TRUE, things, {}),
                             pair(things * some_chance * (1 - some_chance)))
        for things in (1, 2, 10):
            self.assertEqual(mean(MAPS, F_XX, TRUE, things, {}), (1, 1))
            self.assertEqual(spread(MAPS, F_XX, TRUE, things, {}), pair(Fraction(things - 1, things)))
        for things in (2, 6):
            # Of permutations, too, one thing leads to itself in the mean.
            self.assertEqual(mean(MAPS, F_XX, out(F_YX), things, {}), (1, 1))
            self.assertEqual(spread(MAPS, F_XX, out(F_YX), things, {}), (1, 1))

    def test_closed_parts(self):
        for function, wanted in ((mean, (60, 1)), (spread, (0, 1))):
            self.assertEqual(function(MARKED, TRUE, TRUE, 60, {}), wanted)
            self.assertEqual(function(MARKED, NEVER, TRUE, 60, {}), (0, 1))
        # Of all things or of none: each world has a red thing or not.
        chance_some = 1 - Fraction(1, 8)
        self.assertEqual(mean(MARKED, some("x", P_X), TRUE, 3, {}), pair(3 * chance_some))
        self.assertEqual(spread(MARKED, some("x", P_X), TRUE, 3, {}), pair(9 * chance_some * (1 - chance_some)))

    def test_they_come_from_the_row(self):
        for part in (R_XX, some("y", both(R_XY, no(SAME))), each("y", either(R_XY, P_Y))):
            for given in (TRUE, some("x", P_X)):
                weights = {"p": (1, 2), "r": (3, 4)}
                found = [Fraction(*one) for one in row(BOTH, given, part, 6, weights)]
                first = sum([many * one for many, one in enumerate(found)]) / sum(found)
                second = sum([many * many * one for many, one in enumerate(found)]) / sum(found)
                self.assertEqual(mean(BOTH, part, given, 6, weights), pair(first))
                self.assertEqual(spread(BOTH, part, given, 6, weights), pair(second - first * first))


class TestMeanPairs(ChancesCase):
    def test_known_means(self):
        for things in (1, 2, 60):
            self.assertEqual(self.tell(mean_pairs, BARE, R_XY, TRUE, things, {"r": (1, 3)}),
                             pair(Fraction(things * things, 4)))
            self.assertEqual(mean_pairs(BARE, R_XX, TRUE, things, {"r": (1, 3)}), pair(Fraction(things * things, 4)))
            self.assertEqual(mean_pairs(BARE, both(R_XY, SAME), TRUE, things, {}), pair(Fraction(things, 2)))
            pairs = Fraction(things, 2) + Fraction(things * (things - 1), 4)
            self.assertEqual(mean_pairs(BARE, both(R_XY, R_YX), TRUE, things, {}), pair(pairs))
            self.assertEqual(mean_pairs(NONE, SAME, TRUE, things, {}), (things, 1))
            self.assertEqual(mean_pairs(NONE, no(SAME), TRUE, things, {}), (things * (things - 1), 1))
            self.assertEqual(mean_pairs(NONE, TRUE, TRUE, things, {}), (things * things, 1))
            self.assertEqual(mean_pairs(MARKED, both(P_X, no(P_Y)), TRUE, things, {}),
                             pair(Fraction(things * (things - 1), 4)))
        for things in (1, 2, 30):
            wanted = Fraction(things * things * 2 ** (things - 1), 2 ** things - 1)
            self.assertEqual(mean_pairs(BARE, R_XY, out(R_XY), things, {}), pair(wanted))
            self.assertEqual(mean_pairs(BARE, some("y", R_XY), TRUE, things, {}),
                             pair(things * things * (1 - Fraction(1, 2 ** things))))
        for things in (1, 2, 10):
            self.assertEqual(mean_pairs(MAPS, F_XY, TRUE, things, {}), (things, 1))
            self.assertEqual(mean_pairs(MAPS, both(F_XY, F_YX), TRUE, things, {}),
                             pair(1 + Fraction(things - 1, things)))

    def test_the_names_are_both_free_or_not(self):
        for things in (1, 2, 3):
            worlds = all_worlds(MARKED, things)
            for link in (P_X, P_Y, TRUE, some("x", P_X), both(P_X, P_Y), each("y", P_Y), either(P_X, SAME)):
                self.check(worlds, MARKED, [TRUE, some("x", P_X), TRUE, link], things, {"p": (1, 2)})

    def test_the_names_exchanged(self):
        for things in (1, 2, 10):
            one = mean_pairs(BARE, both(R_XY, R_XX), out(R_XY), things, {"r": (2, 3)})
            self.assertEqual(mean_pairs(BARE, both(R_YX, ("tie", "r", "y", "y")), out(R_XY), things, {"r": (2, 3)}),
                             one)


class TestNoChance(ChancesCase):
    def asked(self, function):
        """What the function is asked in these tests."""
        return some("x", P_X) if function is chance else P_X

    def test_what_holds_in_no_world(self):
        for function in DIVIDING:
            for things in (1, 2, 60):
                self.refuse(NoChance, function, MARKED, self.asked(function), NEVER, things, {})
                self.refuse(NoChance, function, MARKED, TRUE, both(some("x", P_X), each("x", no(P_X))), things, {})
            self.refuse(NoChance, function, NONE, TRUE, some("xy", no(SAME)), 1, {})
            self.refuse(NoChance, function, NONE, TRUE, each("xy", SAME), 2, {})
            self.refuse(NoChance, function, MAPS, TRUE, some("x", each("y", no(F_XY))), 4, {})

    def test_a_weight_of_0(self):
        for function in DIVIDING:
            self.refuse(NoChance, function, MARKED, self.asked(function), some("x", P_X), 5, {"p": (0, 1)})
            self.refuse(NoChance, function, BARE, TRUE, out(R_XY), 5, {"r": (0, 1)})
            self.refuse(NoChance, function, MAPS, TRUE, TRUE, 5, {"f": (0, 1)})
        self.assertEqual(chance(MARKED, some("x", P_X), TRUE, 5, {"p": (0, 1)}), (0, 1))
        self.assertEqual(mean(MARKED, P_X, TRUE, 5, {"p": (0, 1)}), (0, 1))
        self.assertEqual(row(MAPS, TRUE, F_XX, 2, {"f": (0, 1)}), [(0, 1)] * 3)

    def test_it_comes_last(self):
        for function in DIVIDING:
            self.refuse(NoThings, function, MARKED, TRUE, NEVER, 0, {})
            self.refuse(NoThings, function, MARKED, TRUE, NEVER, 61, {"p": (2, 2)})
            self.refuse(NoWeights, function, MARKED, TRUE, NEVER, 1, {"p": (2, 2)})
            self.refuse(NoSaying, function, MARKED, None, NEVER, 1, {})


class TestErrors(Case):
    def test_no_saying(self):
        wrong = [("mark", "q", "x"), ("tie", "p", "x", "y"), ["true"], ("some", "x"), (), of_size(101),
                 nested(20, lambda one: ("not", one), TRUE)]
        for at, thing in enumerate(odd_objects() + wrong):
            with self.subTest(at=at):
                for function in FUNCTIONS:
                    self.refuse(NoSaying, function, BOTH, thing, TRUE, 2, {})
                    self.refuse(NoSaying, function, BOTH, TRUE, thing, 2, {})

    def test_not_closed(self):
        for saying in [P_X, P_Y, R_XY, SAME, some("y", R_XY), both(TRUE, R_XX), each("x", P_Y)]:
            for function in DIVIDING:
                self.refuse(NotClosed, function, BOTH, TRUE, saying, 2, {})
            for function in (chance, row):
                self.refuse(NotClosed, function, BOTH, saying, TRUE, 2, {})

    def test_no_part(self):
        for part in [P_Y, R_XY, SAME, ("same", "y", "y"), some("x", R_XY), both(P_X, P_Y), each("x", P_Y),
                     either(TRUE, R_YX),
                     ("tie", "r", "y", "y"), both(some("y", P_Y), P_Y)]:
            self.refuse(NoPart, row, BOTH, TRUE, part, 2, {})
            self.refuse(NoPart, mean, BOTH, part, TRUE, 2, {})
            self.refuse(NoPart, spread, BOTH, part, TRUE, 2, {})
        self.assertEqual(mean(BOTH, some("y", both(P_Y, R_XX)), TRUE, 1, {}), (1, 4))
        self.refuse(NoSaying, mean, BOTH, both(P_Y, ("mark", "q", "y")), TRUE, 2, {})

    def test_no_things(self):
        wrong = [0, 61, -1, 2 ** 70, True, False, None, "1", (1,), [1]]
        wrong += [one for one in odd_objects() if not (type(one) is int and 1 <= one <= 60)]
        for function, thing in itertools.product(FUNCTIONS, wrong):
            self.refuse(NoThings, function, NONE, TRUE, TRUE, thing, {})
        self.assertEqual([chance(NONE, TRUE, TRUE, things, {}) for things in (1, 60)], [(1, 1), (1, 1)])

    def test_no_weights(self):
        wrong = [{"p": (2, 4)}, {"p": (-1, 2)}, {"p": (1, 0)}, {"p": (0, 3)}, {"p": (True, 2)}, {"p": (1, True)},
                 {"p": [1, 2]},
                 {"p": (1, 2, 3)}, {"p": 1}, {"q": (1, 1)}, {0: (1, 1)}, {b"q": (1, 1)}, {"r": (1, 2), "p": None}, [],
                 None, ()]
        for function, thing in itertools.product(FUNCTIONS, wrong + odd_objects()):
            self.refuse(NoWeights, function, BOTH, TRUE, TRUE, 2, thing)

    def test_the_order_of_errors(self):
        sayings = [(1, None, NoSaying), (1, P_X, NotClosed), (2, ("mark", "q", "x"), NoSaying), (2, P_Y, NotClosed)]
        parts = [(1, [], NoSaying), (1, P_Y, NoPart), (2, (), NoSaying), (2, P_X, NotClosed)]
        links = [(1, "true", NoSaying), (2, 0, NoSaying), (2, R_XY, NotClosed)]
        rows = [(1, {}, NoSaying), (1, R_XY, NotClosed), (2, (), NoSaying), (2, R_XY, NoPart)]
        rest = [(3, 0, NoThings), (4, {"p": (0, 2)}, NoWeights)]
        for function, first in ((chance, sayings), (mean, parts), (spread, parts), (mean_pairs, links), (row, rows)):
            self.refuse_in_order(function, [BOTH, TRUE, TRUE, 2, {}], first + rest)

    def test_of_what_is_given_ahead_of_no_chance(self):
        for function in DIVIDING:
            self.refuse_in_order(function, [MARKED, TRUE, NEVER, 2, {}],
                                 [(1, None, NoSaying), (3, 61, NoThings), (4, {"q": (1, 1)}, NoWeights)])

    def test_the_dict_stays_as_it_is(self):
        for function in FUNCTIONS:
            weights = {"p": (1, 2)}
            function(BOTH, TRUE, TRUE, 2, weights)
            self.refuse(NoThings, function, BOTH, TRUE, TRUE, 0, weights)
            self.assertEqual(weights, {"p": (1, 2)})

    def test_fractions(self):
        for function in DIVIDING:
            found = function(BOTH, TRUE, TRUE, 2, {"p": (1, 2)})
            self.assertIs(type(found), tuple)
            self.assertEqual([type(one) for one in found], [int, int])

    def test_by_place_and_by_name(self):
        for function in FUNCTIONS:
            self.tell(function, BOTH, some("x", P_X), some("x", R_XX), 3, {"p": (1, 2)})


if __name__ == "__main__":
    unittest.main()
