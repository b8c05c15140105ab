"""Point 10: weights and chances with facts about some things."""

import inspect
import itertools
import unittest
from fractions import Fraction

from pairsayings.chances import chance
from pairsayings.counting import weight
from pairsayings.errors import NoChance, NoFacts, NoSaying, NoThings, NotClosed, NoWeights
from pairsayings.told import chance_told, weight_told
from pairsayings.tongues import Tongue
from tests.cases import Case
from tests.listed import (BARE, BOTH, MAPS, MARKED, MARKED_MAPS, NONE, TWICE, Sayings, all_worlds, load, pair, places)
from tests.things import TRUE, nested, odd_objects, of_size
from tests.words import F_XX, F_YX, P_X, P_Y, Q_X, R_XX, R_XY, both, each, either, no, out, some

NEVER = no(TRUE)
TIED_MARKS = Tongue(("p", "q"), ("r",), ())
TOLD = [(MARKED, 4), (TWICE, 3), (BOTH, 2), (TIED_MARKS, 2), (MARKED_MAPS, 3), (BARE, 2), (MAPS, 3)]
# The greatest number of things for each load.
MOST = {0: 60, 1: 60, 2: 30, 3: 10, 4: 6, 5: 4}


def is_so(world, facts):
    """Tell whether all facts are so in a listed world."""
    return all((thing in world.marks[name]) == so for thing, fact in enumerate(facts) for name, so in fact.items())


def all_facts(tongue):
    """All facts about one thing."""
    for told in itertools.product([None, True, False], repeat=len(tongue.marks)):
        yield {name: so for name, so in zip(tongue.marks, told) if so is not None}


class ToldCase(Case):
    def check(self, worlds, tongue, sayings, things, weights, facts):
        """Check both functions against worlds listed one by one."""
        saying, given = sayings
        left = [(world, world.weight(weights)) for world in worlds if is_so(world, facts)]
        every = sum([one for world, one in left if world.tell(saying)], Fraction(0))
        found = weight_told(tongue, saying, things, weights, facts)
        self.assertEqual(found, pair(every), (saying, weights, facts))
        whole = sum([one for world, one in left if world.tell(given)], Fraction(0))
        shared = sum([one for world, one in left if world.tell(given) and world.tell(saying)], Fraction(0))
        if whole == 0:
            self.refuse(NoChance, chance_told, tongue, saying, given, things, weights, facts)
        else:
            found = chance_told(tongue, saying, given, things, weights, facts)
            self.assertEqual(found, pair(shared / whole), (saying, given, weights, facts))


class TestAgainstAllWorlds(ToldCase):
    def test_many_sayings(self):
        for tongue, most in TOLD:
            made = Sayings(tongue, 10)
            told = list(all_facts(tongue))
            for things in range(1, most + 1):
                worlds = all_worlds(tongue, things)
                for _ in range(60 if len(worlds) < 100 else 25):
                    sayings = [made.closed(made.random.randint(1, 4)) for _ in range(2)]
                    facts = [made.random.choice(told) for _ in range(made.random.randint(0, things))]
                    if load(tongue, *sayings) <= 6 and sum(places(one)[1] for one in sayings) <= 7:
                        self.check(worlds, tongue, sayings, things, made.weights(), facts)

    def test_each_fact_of_each_thing(self):
        rows = [(MARKED, 3, some("x", P_X), TRUE), (TWICE, 2, each("x", either(P_X, Q_X)), some("x", P_X)),
                (BOTH, 2, out(both(R_XY, P_Y)), some("x", R_XX)),
                (MARKED_MAPS, 2, out(both(F_YX, P_Y)), some("x", P_X))]
        for tongue, things, saying, given in rows:
            worlds = all_worlds(tongue, things)
            for many in range(things + 1):
                for facts in itertools.product(all_facts(tongue), repeat=many):
                    for weights in ({}, {"p": (2, 3)}):
                        self.check(worlds, tongue, [saying, given], things, weights, facts)


class TestByHand(ToldCase):
    def test_the_interface(self):
        names = {weight_told: ["tongue", "saying", "things", "weights", "facts"],
                 chance_told: ["tongue", "saying", "given", "things", "weights", "facts"]}
        for function, told in names.items():
            self.assertEqual(function.__module__, "pairsayings.told")
            self.assertEqual(list(inspect.signature(function).parameters), told)

    def test_known_weights(self):
        self.assertEqual(self.tell(weight_told, MARKED, TRUE, 3, {}, [{"p": True}]), (4, 1))
        self.assertEqual(self.tell(weight_told, MARKED, each("x", P_X), 3, {}, [{"p": False}]), (0, 1))
        self.assertEqual(weight_told(MARKED, TRUE, 3, {"p": (1, 2)}, [{"p": True}]), (9, 8))
        self.assertEqual(weight_told(MARKED, TRUE, 3, {"p": (1, 2)}, [{}, {"p": False}]), (9, 4))
        self.assertEqual(weight_told(MARKED, some("x", P_X), 2, {}, [{"p": False}]), (1, 1))
        self.assertEqual(weight_told(BARE, out(R_XY), 3, {}, [{}, {}]), (343, 1))

    def test_known_chances(self):
        self.assertEqual(self.tell(chance_told, MARKED, each("x", P_X), TRUE, 3, {}, [{"p": True}]), (1, 4))
        self.assertEqual(chance_told(MARKED, each("x", P_X), TRUE, 3, {}, [{"p": True}] * 3), (1, 1))
        self.assertEqual(chance_told(MARKED, each("x", P_X), TRUE, 3, {}, [{"p": False}]), (0, 1))
        self.assertEqual(chance_told(MARKED, each("x", P_X), some("x", P_X), 2, {}, [{}, {"p": False}]), (0, 1))
        # One of thirty things is told to be marked: each other one is by chance.
        self.assertEqual(chance_told(TWICE, each("x", P_X), TRUE, 30, {"p": (2, 1)}, [{"p": True}]),
                         (2 ** 29, 3 ** 29))

    def test_many_things(self):
        for many in (0, 1, 30, 59, 60):
            facts = [{"p": bool(at % 2)} for at in range(many)]
            self.assertEqual(weight_told(MARKED, TRUE, 60, {}, facts), (2 ** (60 - many), 1))
            told = sum(at % 2 for at in range(many))
            self.assertEqual(weight_told(MARKED, TRUE, 60, {"p": (3, 1)}, facts), (3 ** told * 4 ** (60 - many), 1))
        facts = [{"p": True}, {"q": False}, {}, {"p": False, "q": True}] * 7 + [{"q": True}, {"p": False}]
        self.assertEqual(weight_told(TWICE, TRUE, 30, {}, facts), (2 ** (3 * 7 + 7 + 2), 1))
        for things in (5, 10):
            # The things told of are not marked, and all others want another tie.
            facts = [{"p": False}] * (things // 2)
            wanted = 2 ** (things * (things // 2)) * (2 ** things + 2 ** things - 1) ** (things - things // 2)
            self.assertEqual(weight_told(BOTH, each("x", either(no(P_X), some("y", R_XY))), things, {}, facts),
                             (wanted, 1))

    def test_a_fact_and_its_opposite(self):
        made = Sayings(TIED_MARKS, 12)
        tried = 0
        while tried < 25:
            saying, weights = made.closed(4), made.weights()
            if load(TIED_MARKS, saying) > 5 or places(saying)[1] > 6:
                continue
            tried += 1
            things = MOST[load(TIED_MARKS, saying)] // 2
            rest = [made.random.choice(list(all_facts(TIED_MARKS))) for _ in range(things - 1)]
            name = made.random.choice("pq")
            whole = weight_told(TIED_MARKS, saying, things, weights, rest)
            parts = [Fraction(*weight_told(TIED_MARKS, saying, things, weights, rest + [{name: so}]))
                     for so in (True, False)]
            self.assertEqual(pair(sum(parts)), whole)

    def test_the_order_plays_no_role(self):
        facts = [{"p": True}, {"q": False, "p": False}, {}, {"q": True}]
        saying = both(out(both(R_XY, P_Y)), some("x", Q_X))
        found = {weight_told(TIED_MARKS, saying, 5, {"p": (1, 3)}, order) for order in itertools.permutations(facts)}
        self.assertEqual(len(found), 1)
        turned = weight_told(TIED_MARKS, saying, 5, {"p": (1, 3)}, [{"p": False, "q": False}, {"q": True}, {"p": True}])
        self.assertEqual(found, {turned})

    def test_empty_facts(self):
        for facts in ([], (), [{}], ({}, {}), [{}] * 4):
            for weights in ({}, {"p": (1, 2), "r": (2, 1)}):
                saying = out(both(R_XY, P_Y))
                self.assertEqual(weight_told(BOTH, saying, 4, weights, facts), weight(BOTH, saying, 4, weights))
                self.assertEqual(chance_told(BOTH, saying, some("x", P_X), 4, weights, facts),
                                 chance(BOTH, saying, some("x", P_X), 4, weights))
        self.assertEqual(weight_told(NONE, TRUE, 2, {}, [{}, {}]), (1, 1))

    def test_a_function(self):
        # Of two things told to be unmarked, none may lead to itself.
        saying = each("x", either(P_X, no(F_XX)))
        for things in (2, 3, 4):
            wanted = (things - 1) ** 2 * (2 * things - 1) ** (things - 2)
            self.assertEqual(weight_told(MARKED_MAPS, saying, things, {}, [{"p": False}] * 2), (wanted, 1))
            self.assertEqual(weight_told(MARKED_MAPS, saying, things, {"f": (1, 2)}, [{"p": False}] * 2),
                             pair(Fraction(wanted, 2 ** things)))

    def test_as_many_facts_as_things(self):
        self.assertEqual(weight_told(MARKED, some("x", P_X), 2, {}, [{"p": False}, {"p": True}]), (1, 1))
        self.refuse(NoFacts, weight_told, MARKED, some("x", P_X), 2, {}, [{"p": False}, {"p": True}, {}])
        self.refuse(NoFacts, weight_told, MARKED, TRUE, 1, {}, ({}, {}))
        self.refuse(NoFacts, chance_told, MARKED, TRUE, TRUE, 1, {}, ({}, {}))
        self.refuse(NoFacts, weight_told, MARKED, TRUE, 60, {}, [{}] * 61)

    def test_fractions(self):
        for found in (weight_told(BOTH, TRUE, 2, {"p": (1, 2)}, [{"p": True}]),
                      chance_told(BOTH, TRUE, TRUE, 2, {"p": (1, 2)}, [{"p": True}])):
            self.assertIs(type(found), tuple)
            self.assertEqual([type(one) for one in found], [int, int])

    def test_the_greatest_loads(self):
        full = Tongue(("p", "q", "o"), ("r", "s"), ())
        facts = [{"p": True, "q": False}, {"o": True}, {}, {"p": False}]
        self.assertEqual(weight_told(full, TRUE, 4, {}, facts), (2 ** (12 - 4) * 4 ** 16, 1))
        marks = Tongue(("p", "q", "o"), (), ())
        facts = [fact for fact in all_facts(marks)][:10]
        free = sum(3 - len(fact) for fact in facts)
        self.assertEqual(weight_told(marks, TRUE, 10, {}, facts), (2 ** free, 1))
        saying = out(both(R_XY, P_Y))
        one = [{"p": True}, {"p": False}] * 5
        self.assertEqual(weight_told(BOTH, saying, 10, {}, one), (((2 ** 5 - 1) * 2 ** 5) ** 10, 1))


class TestNoChance(ToldCase):
    def test_what_holds_in_no_such_world(self):
        for facts in ([{"p": False}] * 2, [{"p": False}, {"p": False}, {}][:2]):
            self.refuse(NoChance, chance_told, MARKED, TRUE, some("x", P_X), 2, {}, facts)
        self.refuse(NoChance, chance_told, MARKED, TRUE, NEVER, 2, {}, [])
        self.refuse(NoChance, chance_told, MARKED, TRUE, TRUE, 2, {"p": (0, 1)}, [{"p": True}])
        self.refuse(NoChance, chance_told, MARKED, NEVER, each("x", P_X), 2, {}, [{}, {"p": False}])
        self.assertEqual(weight_told(MARKED, TRUE, 2, {"p": (0, 1)}, [{"p": True}]), (0, 1))


class TestErrors(ToldCase):
    def test_no_facts(self):
        wrong = [None, {}, {"p": True}, "", "p", b"", 0, 1, True, {0: {"p": True}}, range(1), TRUE, [TRUE], [()], [[]],
                 [None], ["p"], [0], [True], [("p", True)], [[("p", True)]], [{"p": 1}], [{"p": 0}], [{"p": None}],
                 [{"p": "True"}], [{"p": (True,)}], [{"p": [True]}], [{"p": (1, 1)}], [{"q": True}], [{"r": True}],
                 [{"P": True}], [{b"p": True}], [{0: True}], [{None: True}], [{("p",): True}], [{"x": True}],
                 [{"": True}], [{"p": True, "r": True}], [{"p": True, "q": True}], [{"p": True}, {"p": 1}],
                 [{"p": True}, None], [{}, {"q": False}], ({"p": True}, {"r": False})]
        for at, thing in enumerate(wrong + odd_objects()):
            with self.subTest(at=at):
                self.refuse(NoFacts, weight_told, BOTH, TRUE, 2, {}, thing)
                self.refuse(NoFacts, chance_told, BOTH, TRUE, TRUE, 2, {}, thing)
        for thing in odd_objects():
            self.refuse(NoFacts, weight_told, BOTH, TRUE, 2, {}, [thing] if thing != {} else [None])
            self.refuse(NoFacts, weight_told, BOTH, TRUE, 2, {}, [{"p": thing if not isinstance(thing, bool) else 1}])

    def test_no_saying(self):
        for at, thing in enumerate(odd_objects() + [("mark", "q", "x"), of_size(101),
                                                    nested(20, lambda one: ("not", one), TRUE)]):
            with self.subTest(at=at):
                self.refuse(NoSaying, weight_told, BOTH, thing, 2, {}, [])
                self.refuse(NoSaying, chance_told, BOTH, thing, TRUE, 2, {}, [])
                self.refuse(NoSaying, chance_told, BOTH, TRUE, thing, 2, {}, [])

    def test_not_closed(self):
        for saying in (P_X, P_Y, R_XY, some("y", R_XY)):
            self.refuse(NotClosed, weight_told, BOTH, saying, 2, {}, [])
            self.refuse(NotClosed, chance_told, BOTH, saying, TRUE, 2, {}, [])
            self.refuse(NotClosed, chance_told, BOTH, TRUE, saying, 2, {}, [])

    def test_no_things_and_no_weights(self):
        for thing in [0, 61, -1, True, None, "1", (1,)]:
            self.refuse(NoThings, weight_told, BOTH, TRUE, thing, {}, [])
            self.refuse(NoThings, chance_told, BOTH, TRUE, TRUE, thing, {}, [])
        for thing in [None, [], {"p": (2, 2)}, {"q": (1, 1)}, {"p": 1}]:
            self.refuse(NoWeights, weight_told, BOTH, TRUE, 2, thing, [])
            self.refuse(NoWeights, chance_told, BOTH, TRUE, TRUE, 2, thing, [])

    def test_the_order_of_errors(self):
        rest = [(0, NoThings), ({"p": (2, 2)}, NoWeights), ([{"p": 1}], NoFacts)]
        told = [(2 + at, wrong, error) for at, (wrong, error) in enumerate(rest)]
        self.refuse_in_order(weight_told, [BOTH, TRUE, 2, {}, []],
                             [(1, None, NoSaying), (1, P_X, NotClosed), *told])
        told = [(3 + at, wrong, error) for at, (wrong, error) in enumerate(rest)]
        sayings = [(1, (), NoSaying), (1, R_XY, NotClosed), (2, "true", NoSaying), (2, P_Y, NotClosed)]
        self.refuse_in_order(chance_told, [BOTH, TRUE, TRUE, 2, {}, []], sayings + told)
        self.refuse_in_order(chance_told, [BOTH, TRUE, NEVER, 2, {}, []], [sayings[0], *told])
        self.refuse(NoThings, weight_told, BOTH, TRUE, 0, {}, [{}] * 61)

    def test_what_was_passed_stays(self):
        weights, facts = {"p": (1, 2)}, [{"p": True}, {}]
        weight_told(BOTH, TRUE, 2, weights, facts)
        chance_told(BOTH, some("x", P_X), TRUE, 2, weights, facts)
        self.refuse(NoFacts, weight_told, BOTH, TRUE, 1, weights, facts)
        self.assertEqual((weights, facts), ({"p": (1, 2)}, [{"p": True}, {}]))


if __name__ == "__main__":
    unittest.main()
