"""Point 18: the hall."""

import inspect
import unittest

from pairsayings.chances import chance
from pairsayings.errors import (HasFunctions, NoChance, NoSaid, NoSaying, NoStep, NoThings, NotClosed, NoUndo,
                                NoWeights,
                                TooMany)
from pairsayings.follow import follows
from pairsayings.halls import Hall
from pairsayings.tongues import Tongue
from tests.cases import Case
from tests.listed import BARE, BOTH, MAPS, MARKED, NONE, TIED_MAPS, TWICE, Sayings, load, places
from tests.things import TRUE, nested, odd_objects, of_size
from tests.words import P_X, P_Y, Q_X, R_XX, R_XY, R_YX, SAME, both, each, either, no, out, some

NEVER = no(TRUE)
SOME_P, EACH_P, NO_P = some("x", P_X), each("x", P_X), each("x", no(P_X))
SOME_Q = some("x", Q_X)
METHODS = {"say": ["saying"], "drop": ["index"], "weigh": ["name", "fraction"], "said": [], "scales": [],
           "language": [],
           "ask": ["saying"], "chance": ["saying", "things"], "back": [], "depth": [], "trial": ["steps"]}
NO_SAYINGS = odd_objects() + [("mark", "o", "x"), ["true"], of_size(101), nested(20, lambda one: ("not", one), TRUE)]
NO_FRACTIONS = [(2, 4), (0, 2), (-1, 2), (1, 0), (1, -1), (True, 1), (1, True), [1, 2], (1,), (1, 2, 3), 1, None,
                "1/2", ()]


class HallCase(Case):
    def state(self, hall):
        """What can be seen of a hall."""
        return hall.said(), hall.scales(), hall.depth(), hall.language()

    def is_so(self, hall, said, scales, depth):
        """Check what can be seen of a hall."""
        self.assertEqual((hall.said(), hall.scales(), hall.depth()), (said, scales, depth))

    def refuse_call(self, error, hall, name, *args):
        """Check that the call raises the error and changes nothing."""
        before = self.state(hall)
        self.refuse(error, getattr(hall, name), *args)
        self.assertEqual(self.state(hall), before)

    def do(self, hall, name, *args):
        """Make a call that returns nothing, by name and by place in turn."""
        method = getattr(hall, name)
        if hall.depth() % 2:
            self.assertIsNone(method(*args))
        else:
            self.assertIsNone(method(**dict(zip(METHODS[name], args))))


class TestInterface(Case):
    def test_names(self):
        self.assertEqual((Hall.__module__, Hall.__bases__), ("pairsayings.halls", (object,)))
        self.assertEqual(list(inspect.signature(Hall).parameters), ["tongue"])
        for name, told in METHODS.items():
            self.assertIn(name, vars(Hall))
            self.assertEqual(list(inspect.signature(getattr(Hall, name)).parameters), ["self", *told])

    def test_has_functions(self):
        for tongue in (MAPS, TIED_MAPS, Tongue(("p",), ("f",), ("f",))):
            self.refuse(HasFunctions, Hall, tongue)
        self.assertEqual(Hall(tongue=BARE).language(), BARE)


class TestSteps(HallCase):
    def test_at_first(self):
        for tongue in (NONE, BOTH):
            hall = Hall(tongue)
            self.is_so(hall, [], {}, 0)
            self.assertEqual(hall.language(), tongue)
            self.refuse_call(NoUndo, hall, "back")
            self.refuse_call(NoSaid, hall, "drop", 0)

    def test_say(self):
        hall = Hall(BOTH)
        self.do(hall, "say", SOME_P)
        self.is_so(hall, [SOME_P], {}, 1)
        self.do(hall, "say", out(R_XY))
        self.do(hall, "say", SOME_P)
        self.is_so(hall, [SOME_P, out(R_XY), SOME_P], {}, 3)
        for saying in (SOME_P, TRUE, NEVER):
            self.refuse_call(TooMany, hall, "say", saying)

    def test_say_refused(self):
        hall = Hall(BOTH)
        for many in range(4):
            for at, thing in enumerate(NO_SAYINGS):
                with self.subTest(at=at):
                    self.refuse_call(NoSaying, hall, "say", thing)
            for saying in (P_X, R_XY, some("y", R_XY)):
                self.refuse_call(NotClosed, hall, "say", saying)
            if many < 3:
                hall.say(EACH_P)
        self.refuse_call(TooMany, hall, "say", EACH_P)

    def test_great_sayings(self):
        """The kept sayings together are greater and deeper than a saying may be."""
        deep = nested(19, lambda one: ("or", TRUE, one), TRUE)
        hall = Hall(NONE)
        for _ in range(3):
            hall.say(deep)
        self.assertEqual((hall.ask(deep), hall.ask(no(NEVER)), hall.chance(deep, 60)), ("sure", "sure", (1, 1)))
        hall.drop(0)
        hall.say(of_size(100))
        self.assertEqual(hall.said(), [deep, deep, of_size(100)])

    def test_drop(self):
        hall = Hall(BOTH)
        for saying in (SOME_P, EACH_P, TRUE):
            hall.say(saying)
        self.do(hall, "drop", 1)
        self.is_so(hall, [SOME_P, TRUE], {}, 4)
        wrong = [2, 3, -1, 2 ** 70, True, False, None, "0", (0,), [0]]
        for thing in wrong + [one for one in odd_objects() if not (type(one) is int and 0 <= one < 2)]:
            self.refuse_call(NoSaid, hall, "drop", thing)
        self.do(hall, "drop", 1)
        self.do(hall, "drop", 0)
        self.is_so(hall, [], {}, 6)
        self.refuse_call(NoSaid, hall, "drop", 0)

    def test_weigh(self):
        hall = Hall(BOTH)
        self.do(hall, "weigh", "p", (1, 2))
        self.do(hall, "weigh", "r", (0, 1))
        self.is_so(hall, [], {"p": (1, 2), "r": (0, 1)}, 2)
        self.do(hall, "weigh", "p", (1, 1))
        self.is_so(hall, [], {"p": (1, 1), "r": (0, 1)}, 3)
        self.do(hall, "weigh", "p", (1, 1))
        self.assertEqual(hall.depth(), 4)
        for name in ["q", "x", "", "P", b"p", None, 0, True, ("p",), ["p"], {"p": 1}] + odd_objects():
            self.refuse_call(NoWeights, hall, "weigh", name, (1, 2))
        for thing in NO_FRACTIONS + odd_objects():
            self.refuse_call(NoWeights, hall, "weigh", "p", thing)
            self.refuse_call(NoWeights, hall, "weigh", "r", thing)
            self.refuse_call(NoWeights, hall, "weigh", None, thing)

    def test_back_to_the_beginning_and_once_more(self):
        hall = Hall(BOTH)
        calls = [("say", SOME_P), ("weigh", "p", (1, 2)), ("say", TRUE), ("drop", 0), ("weigh", "p", (3, 1)),
                 ("weigh", "r", (1, 3)), ("say", EACH_P), ("drop", 1), ("say", NEVER)]
        for _ in range(2):
            seen = [self.state(hall)]
            for call in calls:
                self.do(hall, *call)
                seen.append(self.state(hall))
            self.assertEqual(seen[-1], ([TRUE, NEVER], {"p": (3, 1), "r": (1, 3)}, 9, BOTH))
            for state in reversed(seen[:-1]):
                self.do(hall, "back")
                self.assertEqual(self.state(hall), state)
            self.refuse_call(NoUndo, hall, "back")

    def test_back_is_no_step_itself(self):
        hall = Hall(BOTH)
        hall.say(SOME_P)
        hall.say(EACH_P)
        hall.back()
        hall.say(NO_P)
        self.is_so(hall, [SOME_P, NO_P], {}, 2)
        hall.back()
        hall.back()
        self.is_so(hall, [], {}, 0)

    def test_rows_of_calls_with_refused_ones_between(self):
        hall = Hall(BOTH)
        refused = [(NoSaying, "say", None), (NotClosed, "say", P_X), (NoSaid, "drop", 3), (NoSaid, "drop", True),
                   (NoWeights, "weigh", "q", (1, 1)), (NoWeights, "weigh", "p", (2, 2)), (NoStep, "trial", None),
                   (NoSaying, "trial", [("weigh", "p", (1, 1)), ("say", 0)]), (NoSaying, "ask", 5),
                   (NotClosed, "ask", R_XX),
                   (NoSaying, "chance", (), 3), (NoThings, "chance", TRUE, 61)]
        made = Sayings(BOTH, 90)
        said, scales, seen = [], {}, []
        for _ in range(120):
            error, *call = made.random.choice(refused)
            self.refuse_call(error, hall, *call)
            kind = made.random.choice(["say", "say", "drop", "weigh", "back"])
            if kind == "back" and seen:
                hall.back()
                said, scales = seen.pop()
            elif kind == "say" and len(said) < 3:
                saying = made.closed(3)
                hall.say(saying)
                seen.append((said, scales))
                said = said + [saying]
            elif kind == "drop" and said:
                index = made.random.randrange(len(said))
                hall.drop(index)
                seen.append((said, scales))
                said = said[:index] + said[index + 1:]
            elif kind == "weigh":
                name, fraction = made.random.choice("pr"), made.random.choice([(1, 2), (3, 1), (0, 1)])
                hall.weigh(name, fraction)
                seen.append((said, scales))
                scales = {**scales, name: fraction}
            self.is_so(hall, said, scales, len(seen))

    def test_what_came_back_may_be_changed(self):
        hall = Hall(BOTH)
        hall.say(SOME_P)
        hall.weigh("p", (1, 2))
        hall.said().append(TRUE)
        hall.said()[0] = None
        hall.scales().clear()
        hall.scales()["r"] = (1, 1)
        hall.trial([("say", TRUE)]).clear()
        self.is_so(hall, [SOME_P], {"p": (1, 2)}, 2)
        hall.back()
        self.is_so(hall, [SOME_P], {}, 1)

    def test_two_halls(self):
        one, other = Hall(BOTH), Hall(BOTH)
        one.say(SOME_P)
        self.is_so(other, [], {}, 0)


class TestTrial(HallCase):
    def setUp(self):
        self.hall = Hall(BOTH)
        self.hall.say(SOME_P)
        self.hall.weigh("p", (1, 2))
        self.hall.say(out(R_XY))

    def tried(self, steps):
        """What the trial returns; behind it all is as before."""
        before = self.state(self.hall)
        found = self.tell(self.hall.trial, steps)
        self.assertIs(type(found), list)
        self.assertEqual(self.hall.trial(tuple(steps)), found)
        self.assertEqual(self.state(self.hall), before)
        return found

    def test_right_steps(self):
        rows = [
            ([], [SOME_P, out(R_XY)]), ([("say", TRUE)], [SOME_P, out(R_XY), TRUE]), ([("drop", 0)], [out(R_XY)]),
            ([("weigh", "r", (1, 3))], [SOME_P, out(R_XY)]), ([("back",)], [SOME_P]),
            ([("back",), ("back",)], [SOME_P]),
            ([("back",)] * 3, []), ([("say", TRUE), ("back",)], [SOME_P, out(R_XY)]),
            ([("drop", 1), ("drop", 0), ("say", TRUE), ("say", NEVER), ("say", EACH_P)], [TRUE, NEVER, EACH_P]),
            ([("back",)] * 3 + [("say", EACH_P), ("weigh", "p", (1, 1)), ("back",)], [EACH_P]),
        ]
        for steps, said in rows:
            self.assertEqual(self.tried(steps), said)

    def test_a_step_that_is_refused(self):
        rows = [
            (NoSaying, [("say", None)]), (NotClosed, [("say", P_X)]), (TooMany, [("say", TRUE), ("say", TRUE)]),
            (NoSaid, [("drop", 2)]), (NoSaid, [("drop", 0), ("drop", 1)]), (NoSaid, [("drop", True)]),
            (NoWeights, [("weigh", "q", (1, 1))]), (NoWeights, [("weigh", "p", 1)]), (NoUndo, [("back",)] * 4),
            (NoSaying, [("say", TRUE), ("drop", 0), ("say", ())]),
            (NoUndo, [("back",)] * 3 + [("weigh", "p", (1, 3))] + [("back",)] * 2),
            (NoSaid, [("drop", 9), ("say", None)]), (NoSaying, [("say", None), ("drop", 9)]),
        ]
        for error, steps in rows:
            self.refuse_call(error, self.hall, "trial", steps)
        for thing in NO_SAYINGS:
            self.refuse_call(NoSaying, self.hall, "trial", [("drop", 0), ("say", thing)])
            self.refuse_call(NoWeights, self.hall, "trial", [("weigh", "p", thing)])

    def test_what_is_no_sequence_of_steps(self):
        wrong = [["say", TRUE], [["say", TRUE]], [("say",)], [("say", TRUE, TRUE)], [("drop",)], [("drop", 0, 1)],
                 [("weigh", "p")], [("weigh", "p", (1, 2), 0)], [("weigh", ("p", (1, 2)))], [("back", 0)],
                 [("back", None)],
                 [()], [("Say", TRUE)], [("said",)], [("ask", TRUE)], [("trial", [])], [(b"say", TRUE)], [(b"back",)],
                 [(0, TRUE)], [(None,)], [("",)], [(("back",),)], ["back"], [None], [0], [("back",), None],
                 ("back",), ("say", TRUE), {0: ("back",)}, {("back",): 0}, "back", b"", "", None, 0, True]
        for at, thing in enumerate(wrong + [one for one in odd_objects()]):
            with self.subTest(at=at):
                self.refuse_call(NoStep, self.hall, "trial", thing)
        # What is written otherwise counts ahead of what the steps do.
        for steps in ([("say", None), ("back", 0)], [("drop", 9), ()], [("back",)] * 9 + [["back"]]):
            self.refuse_call(NoStep, self.hall, "trial", steps)

    def test_all_goes_on(self):
        self.hall.trial([("back",), ("back",), ("say", NEVER)])
        self.refuse_call(TooMany, self.hall, "trial", [("say", TRUE)] * 2)
        self.hall.say(TRUE)
        self.is_so(self.hall, [SOME_P, out(R_XY), TRUE], {"p": (1, 2)}, 4)
        for said, scales, depth in [([SOME_P, out(R_XY)], {"p": (1, 2)}, 3), ([SOME_P], {"p": (1, 2)}, 2),
                                    ([SOME_P], {}, 1), ([], {}, 0)]:
            self.hall.back()
            self.is_so(self.hall, said, scales, depth)

    def test_the_steps_stay(self):
        steps = [("say", TRUE), ("back",)]
        self.hall.trial(steps)
        self.assertEqual(steps, [("say", TRUE), ("back",)])


class TestAsk(HallCase):
    def asked(self, tongue, said, saying):
        hall = Hall(tongue)
        for one in said:
            hall.say(one)
        before = self.state(hall)
        found = self.tell(hall.ask, saying)
        self.assertEqual(self.state(hall), before)
        return found

    def test_by_hand(self):
        rows = [
            (MARKED, [], TRUE, "sure"), (MARKED, [], NEVER, "never"), (MARKED, [], SOME_P, "open"),
            (MARKED, [EACH_P], SOME_P, "sure"), (MARKED, [NO_P], SOME_P, "never"), (MARKED, [SOME_P], EACH_P, "open"),
            (MARKED, [SOME_P, NO_P], TRUE, "none"), (MARKED, [NEVER], NEVER, "none"),
            (MARKED, [EACH_P, NO_P], SOME_P, "none"),
            (TWICE, [SOME_P, each("x", either(no(P_X), Q_X))], SOME_Q, "sure"),
            (TWICE, [SOME_P, each("x", either(no(P_X), Q_X)), no(SOME_Q)], SOME_Q, "none"),
            (BARE, [out(both(R_XY, no(SAME)))], each("xy", SAME), "never"), (BARE, [out(R_XY)], out(R_YX), "open"),
            (BARE, [each("xy", SAME), out(R_XY)], each("x", R_XX), "sure"),
            (NONE, [some("x", each("y", SAME))], some("xy", no(SAME)), "never"),
            (NONE, [each("xy", SAME), some("xy", no(SAME))], TRUE, "none"),
            (BOTH, [out(both(R_XY, P_Y))], SOME_P, "sure"), (BOTH, [out(both(R_XY, P_Y)), NO_P], TRUE, "none"),
        ]
        for tongue, said, saying, wanted in rows:
            self.assertEqual(self.asked(tongue, said, saying), wanted, (said, saying))

    def test_by_what_follows(self):
        found = {}
        for tongue in (TWICE, BARE, BOTH):
            made = Sayings(tongue, 91)
            for _ in range(120):
                said = [made.closed(made.random.randint(1, 3)) for _ in range(made.random.randint(0, 3))]
                saying = made.closed(made.random.randint(1, 3))
                inner, closed = [sum(column) for column in zip(*[places(one) for one in [*said, saying]])]
                if inner > 2 or closed > 4 or load(tongue, *said, saying) > 4:
                    continue
                sure = follows(tongue, said, saying) is None
                never = follows(tongue, said, no(saying)) is None
                wanted = {(True, True): "none", (True, False): "sure", (False, True): "never"}.get((sure, never),
                                                                                                   "open")
                self.assertEqual(self.asked(tongue, said, saying), wanted, (said, saying))
                found[wanted] = True
        self.assertEqual(len(found), 4)

    def test_errors(self):
        hall = Hall(BOTH)
        for thing in NO_SAYINGS:
            self.refuse_call(NoSaying, hall, "ask", thing)
        for saying in (P_X, R_XY, some("y", R_XY)):
            self.refuse_call(NotClosed, hall, "ask", saying)


class TestChance(HallCase):
    def test_by_hand(self):
        hall = Hall(BOTH)
        self.assertEqual(self.tell(hall.chance, SOME_P, 3), (7, 8))
        hall.weigh("p", (1, 2))
        self.assertEqual(self.tell(hall.chance, EACH_P, 3), (1, 27))
        hall.say(SOME_P)
        self.assertEqual(self.tell(hall.chance, EACH_P, 3), (1, 19))
        hall.weigh("r", (0, 1))
        self.assertEqual(hall.chance(some("xy", R_XY), 3), (0, 1))
        hall.back()
        hall.say(EACH_P)
        hall.say(out(R_XY))
        self.assertEqual(hall.chance(TRUE, 10), (1, 1))
        self.assertEqual(hall.chance(each("x", R_XX), 2), (4, 9))

    def test_as_the_chance_of_point_8(self):
        made = Sayings(BOTH, 92)
        for _ in range(60):
            said, saying, weights = [made.closed(3) for _ in range(2)], made.closed(3), made.weights()
            if load(BOTH, *said, saying) > 4 or sum(places(one)[1] for one in [*said, saying]) > 6:
                continue
            hall = Hall(BOTH)
            for one in said:
                hall.say(one)
            for name, fraction in weights.items():
                hall.weigh(name, fraction)
            try:
                wanted = chance(BOTH, saying, both(*said), 4, weights)
            except NoChance:
                self.refuse_call(NoChance, hall, "chance", saying, 4)
                continue
            self.assertEqual(self.tell(hall.chance, saying, 4), wanted)

    def test_no_things(self):
        hall = Hall(MARKED)
        wrong = [0, 61, -1, 2 ** 70, True, None, "1", (1,)]
        for thing in wrong + [one for one in odd_objects() if not (type(one) is int and 1 <= one <= 60)]:
            self.refuse_call(NoThings, hall, "chance", TRUE, thing)
        self.assertEqual([hall.chance(SOME_P, things) for things in (1, 60)], [(1, 2), (2 ** 60 - 1, 2 ** 60)])

    def test_no_chance(self):
        hall = Hall(MARKED)
        hall.say(SOME_P)
        hall.weigh("p", (0, 1))
        self.refuse_call(NoChance, hall, "chance", TRUE, 2)
        hall.back()
        hall.say(NO_P)
        self.refuse_call(NoChance, hall, "chance", TRUE, 2)
        hall.drop(0)
        self.assertEqual(hall.chance(TRUE, 2), (1, 1))

    def test_the_order_of_errors(self):
        hall = Hall(MARKED)
        hall.say(NEVER)
        self.refuse_in_order(hall.chance, [TRUE, 2], [(0, None, NoSaying), (0, P_X, NotClosed), (1, 0, NoThings)])
        self.refuse(NoChance, hall.chance, TRUE, 2)


if __name__ == "__main__":
    unittest.main()
