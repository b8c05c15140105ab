"""Points 16 and 17: sayings changed, and worlds of some of the things."""

import inspect
import itertools
import unittest

from pairsayings.changes import alone, exchanged, inward, kept, renamed, turned
from pairsayings.counting import count
from pairsayings.errors import HasFunctions, NoMark, NoSaying, NoThings, NoTie, OtherTongue
from pairsayings.sayings import free
from pairsayings.tongues import Tongue
from pairsayings.worlds import World, holds
from tests.cases import Case
from tests.listed import BARE, BOTH, MAPS, MARKED, NONE, TIED_MAPS, TIES, TWICE, Sayings, all_worlds, load, places
from tests.things import TRUE, depth_of, nested, odd_objects, of_size, tuples_in
from tests.words import P_X, P_Y, Q_X, Q_Y, R_XX, R_XY, R_YX, SAME, S_XY, S_YX, both, each, either, no, out, some

NEVER = no(TRUE)
FUNCTIONS = {exchanged: ["tongue", "saying"], inward: ["tongue", "saying"], turned: ["tongue", "saying", "tie"],
             renamed: ["tongue", "saying", "other"], alone: ["tongue", "saying", "mark"], kept: ["world", "mark"]}
FULL = Tongue(("p", "q"), ("r", "s"), ())
OTHER_FULL = Tongue(["q", "b"], ["s", "p"], ["p"])
# The further arguments with which the functions on sayings of the tongue FULL are called.
MORE = {exchanged: [], inward: [], turned: ["r"], renamed: [OTHER_FULL], alone: ["p"]}


def many_sayings(tongue, seed, many, deep=5):
    """Sayings of the tongue, with free names and without, of all kinds."""
    made = Sayings(tongue, seed)
    return [made.any(made.random.randint(1, deep)) for _ in range(many)]


def small_sayings(tongue, seed, many):
    """Sayings with at most 24 tuples that are at most 8 deep."""
    return [saying for saying in many_sayings(tongue, seed, many) if tuples_in(saying) <= 24]


class ChangesCase(Case):
    def same_everywhere(self, tongue, one, other):
        """Check that two sayings are so of the same things of all small worlds."""
        for world in all_worlds(tongue, 2):
            for pair in itertools.product(range(2), repeat=2):
                self.assertEqual(world.tell(one, *pair), world.tell(other, *pair), (one, other))


class TestInterface(Case):
    def test_names(self):
        for function, names in FUNCTIONS.items():
            self.assertEqual(function.__module__, "pairsayings.changes")
            self.assertEqual(list(inspect.signature(function).parameters), names)


class TestExchanged(ChangesCase):
    def test_each_kind(self):
        rows = [
            (TRUE, TRUE), (P_X, P_Y), (P_Y, P_X), (R_XY, R_YX), (R_XX, ("tie", "r", "y", "y")),
            (SAME, ("same", "y", "x")),
            (("same", "x", "x"), ("same", "y", "y")), (no(P_X), no(P_Y)), (both(P_X, R_XY), both(P_Y, R_YX)),
            (either(P_Y, TRUE), either(P_X, TRUE)), (each("x", P_X), each("y", P_Y)),
            (some("y", R_XX), some("x", ("tie", "r", "y", "y"))),
            (out(R_XY), each("y", some("x", R_YX))), (each("x", P_Y), each("y", P_X)),
        ]
        for saying, wanted in rows:
            self.assertEqual(self.tell(exchanged, FULL, saying), wanted)
            self.assertEqual(exchanged(FULL, wanted), saying)

    def test_twice_and_in_worlds(self):
        for saying in many_sayings(FULL, 80, 60):
            found = exchanged(FULL, saying)
            self.assertEqual(exchanged(FULL, found), saying)
            for world in all_worlds(FULL, 1) + all_worlds(FULL, 2)[::97]:
                for x, y in itertools.product(range(world.things), repeat=2):
                    self.assertEqual(world.tell(found, x, y), world.tell(saying, y, x))

    def test_names_like_words(self):
        tongue = Tongue(("xy", "mark"), ("tie", "same"), ())
        saying = both(("mark", "mark", "x"), ("tie", "tie", "y", "x"), ("mark", "xy", "y"), ("tie", "same", "x", "x"))
        self.assertEqual(exchanged(tongue, saying), both(("mark", "mark", "y"), ("tie", "tie", "x", "y"),
                                                         ("mark", "xy", "x"), ("tie", "same", "y", "y")))


class TestInward(ChangesCase):
    def is_led(self, saying):
        """Tell whether "not" stands on the inmost sayings alone."""
        inner = [one for one in saying[1:] if isinstance(one, tuple)]
        if saying[0] == "not":
            return inner[0][0] in ("true", "mark", "tie", "same")
        return all(self.is_led(one) for one in inner)

    def test_each_kind(self):
        rows = [
            (TRUE, TRUE), (NEVER, NEVER), (no(NEVER), TRUE), (no(no(NEVER)), NEVER), (no(P_X), no(P_X)),
            (no(R_XY), no(R_XY)),
            (no(SAME), no(SAME)), (no(no(SAME)), SAME), (no(both(P_X, R_XY)), either(no(P_X), no(R_XY))),
            (no(either(P_X, no(R_XY))), both(no(P_X), R_XY)), (no(each("x", P_X)), some("x", no(P_X))),
            (no(some("y", P_X)), each("y", no(P_X))), (no(out(R_XY)), some("x", each("y", no(R_XY)))),
            (no(some("x", no(each("y", no(R_XY))))), each("x", each("y", no(R_XY)))),
            (each("x", no(no(P_X))), each("x", P_X)),
            (both(no(both(P_X, P_Y)), P_X), both(either(no(P_X), no(P_Y)), P_X)),
            (no(both(no(P_X), either(P_Y, no(some("x", P_X))))), either(P_X, both(no(P_Y), some("x", P_X)))),
            (no(each("x", either(no(P_X), some("y", both(R_XY, no(P_Y)))))),
             some("x", both(P_X, each("y", either(no(R_XY), P_Y))))),
        ]
        for saying, wanted in rows:
            self.assertEqual(self.tell(inward, FULL, saying), wanted)
            self.assertEqual(inward(FULL, wanted), wanted)

    def test_in_worlds_and_once_more(self):
        for tongue in (MARKED, BARE, BOTH, MAPS):
            for saying in small_sayings(tongue, 81, 80):
                found = inward(tongue, saying)
                self.assertTrue(self.is_led(found))
                self.assertEqual(inward(tongue, found), found)
                self.assertEqual(inward(tongue, no(no(saying))), found)
                self.assertEqual(free(tongue, found), free(tongue, saying))
                self.same_everywhere(tongue, saying, found)
                self.same_everywhere(tongue, no(saying), inward(tongue, no(saying)))

    def test_24_tuples_and_8_deep(self):
        wide = of_size(23)
        self.assertEqual((tuples_in(no(wide)), inward(BOTH, wide)), (24, wide))
        found = inward(BOTH, no(wide))
        self.assertTrue(self.is_led(found))
        self.assertEqual(inward(BOTH, no(found)), wide)
        deep = nested(7, lambda one: ("not", one), P_X)
        self.assertEqual((depth_of(deep), inward(FULL, deep)), (8, no(P_X)))
        deep = no(nested(6, lambda one: ("each", "x", one), P_X))
        self.assertEqual((depth_of(deep), inward(FULL, deep)), (8, nested(6, lambda one: ("some", "x", one), no(P_X))))


class TestTurned(ChangesCase):
    def test_each_kind(self):
        rows = [
            (TRUE, TRUE), (P_X, P_X), (SAME, SAME), (R_XY, R_YX), (R_YX, R_XY), (R_XX, R_XX), (S_XY, S_XY),
            (out(both(R_XY, S_XY)), out(both(R_YX, S_XY))), (no(some("x", R_YX)), no(some("x", R_XY))),
            (either(R_XY, each("y", R_YX)), either(R_YX, each("y", R_XY))),
        ]
        for saying, wanted in rows:
            self.assertEqual(self.tell(turned, FULL, saying, "r"), wanted)
        self.assertEqual(turned(FULL, both(R_XY, S_XY), "s"), both(R_XY, S_YX))
        self.assertEqual(turned(MAPS, ("tie", "f", "x", "y"), "f"), ("tie", "f", "y", "x"))

    def test_twice_and_in_turned_worlds(self):
        for saying in many_sayings(TIES, 82, 60):
            found = turned(TIES, saying, "r")
            self.assertEqual(turned(TIES, found, "r"), saying)
            self.assertEqual(turned(TIES, turned(TIES, found, "s"), "r"), turned(TIES, saying, "s"))
            for world in all_worlds(TIES, 2)[::7]:
                turn = {"r": {(other, one) for one, other in world.ties["r"]}, "s": world.ties["s"]}
                for x, y in itertools.product(range(2), repeat=2):
                    self.assertEqual(type(world)(TIES, 2, {}, turn).tell(found, x, y), world.tell(saying, x, y))

    def test_it_holds_in_as_many_worlds(self):
        made = Sayings(BOTH, 83)
        for _ in range(30):
            saying = made.closed(4)
            if load(BOTH, saying) <= 4 and places(saying)[1] <= 6:
                for things in (1, 2, 5):
                    self.assertEqual(count(BOTH, turned(BOTH, saying, "r"), things), count(BOTH, saying, things))


class TestRenamed(ChangesCase):
    def test_each_kind(self):
        rows = [
            (TRUE, TRUE), (SAME, SAME), (P_X, ("mark", "q", "x")), (Q_Y, ("mark", "b", "y")),
            (R_XY, ("tie", "s", "x", "y")),
            (S_YX, ("tie", "p", "y", "x")), (no(both(P_X, Q_X)), no(both(Q_X, ("mark", "b", "x")))),
            (out(either(R_XY, S_XY)), out(either(("tie", "s", "x", "y"), ("tie", "p", "x", "y")))),
        ]
        for saying, wanted in rows:
            self.assertEqual(self.tell(renamed, FULL, saying, OTHER_FULL), wanted)
            self.assertEqual(renamed(OTHER_FULL, wanted, FULL), saying)

    def test_there_and_back(self):
        for saying in many_sayings(FULL, 84, 60):
            found = renamed(FULL, saying, OTHER_FULL)
            self.assertIsInstance(free(OTHER_FULL, found), tuple)
            self.assertEqual(renamed(OTHER_FULL, found, FULL), saying)
            self.assertEqual(renamed(FULL, saying, FULL), saying)

    def test_in_worlds(self):
        other = Tongue(("red",), ("to",), ())
        for saying in many_sayings(BOTH, 85, 40):
            found = renamed(BOTH, saying, other)
            for world in all_worlds(BOTH, 2)[::5]:
                named = type(world)(other, 2, {"red": world.marks["p"]}, {"to": world.ties["r"]})
                for x, y in itertools.product(range(2), repeat=2):
                    self.assertEqual(named.tell(found, x, y), world.tell(saying, x, y))

    def test_functions_play_no_role(self):
        self.assertEqual(renamed(MAPS, ("tie", "f", "x", "y"), BARE), R_XY)
        self.assertEqual(renamed(BARE, R_XY, MAPS), ("tie", "f", "x", "y"))
        self.assertEqual(renamed(TIES, both(R_XY, S_XY), TIED_MAPS), both(R_XY, ("tie", "f", "x", "y")))

    def test_other_tongues(self):
        wrong = [NONE, MARKED, TWICE, BARE, BOTH, TIES, Tongue(("p", "q", "o"), ("r", "s"), ()),
                 Tongue(("p", "q"), ("r",), ()), Tongue, None, FULL.marks, (FULL.marks, FULL.ties, ())]
        wrong += [one for one in odd_objects() if not isinstance(one, Tongue)]
        for at, thing in enumerate(wrong):
            with self.subTest(at=at):
                self.refuse(OtherTongue, renamed, FULL, TRUE, thing)
                self.refuse(NoSaying, renamed, FULL, ("mark", "o", "x"), thing)
        self.refuse(OtherTongue, renamed, NONE, TRUE, MARKED)
        self.assertEqual(renamed(NONE, TRUE, NONE), TRUE)


class TestAlone(ChangesCase):
    def test_each_kind(self):
        marked_y = ("mark", "q", "y")
        rows = [
            (TRUE, TRUE), (P_X, P_X), (R_XY, R_XY), (SAME, SAME), (no(P_X), no(P_X)),
            (each("x", P_X), each("x", either(no(Q_X), P_X))), (some("x", P_X), some("x", ("and", Q_X, P_X))),
            (each("y", R_XY), each("y", either(no(marked_y), R_XY))),
            (out(R_XY), each("x", either(no(Q_X), some("y", ("and", marked_y, R_XY))))),
            (no(some("y", each("x", R_XY))), no(some("y", ("and", marked_y, each("x", either(no(Q_X), R_XY)))))),
            (both(some("x", P_X), no(each("x", Q_X))),
             both(some("x", ("and", Q_X, P_X)), no(each("x", either(no(Q_X), Q_X))))),
        ]
        for saying, wanted in rows:
            self.assertEqual(self.tell(alone, FULL, saying, "q"), wanted)

    def test_in_what_is_kept(self):
        for tongue in (TWICE, Tongue(("p", "q"), ("r",), ())):
            made = Sayings(tongue, 86)
            worlds = all_worlds(tongue, 2) + all_worlds(tongue, 3)[::37]
            for _ in range(40):
                # What is said does not name the mark q.
                saying = swap_mark(made.closed(made.random.randint(1, 4)))
                found = alone(tongue, saying, "q")
                for listed in worlds[::3]:
                    world = listed.world()
                    if world.marks["q"]:
                        self.assertEqual(holds(world, found), holds(kept(world, "q"), saying), saying)

    def test_24_tuples_and_8_deep(self):
        deep = nested(7, lambda one: ("each", "y", one), P_X)
        found = alone(FULL, deep, "p")
        self.assertEqual((depth_of(deep), depth_of(found), tuples_in(found)), (8, 16, 8 + 7 * 3))
        self.assertEqual(free(FULL, found), ("x",))
        wide = nested(5, lambda one: ("and", one, some("x", one)), TRUE)
        while tuples_in(wide) > 24:
            wide = wide[1]
        self.assertLessEqual(tuples_in(alone(FULL, wide, "q")), 100)
        self.assertEqual(free(FULL, alone(FULL, wide, "q")), ())

    def test_functions_may_be(self):
        tongue = Tongue(("p",), ("f",), ("f",))
        self.assertEqual(alone(tongue, each("x", ("tie", "f", "x", "x")), "p"),
                         each("x", either(no(P_X), ("tie", "f", "x", "x"))))


def swap_mark(saying):
    """The saying with the mark p at the places of the mark q."""
    if saying[0] == "mark":
        return ("mark", "p", saying[2])
    return tuple(swap_mark(one) if isinstance(one, tuple) else one for one in saying)


class TestKept(Case):
    def test_in_their_order(self):
        world = World(FULL, 6, {"p": [1, 3, 4], "q": [0, 3, 5]},
                      {"r": [(1, 3), (3, 1), (4, 4), (0, 1), (4, 5)], "s": [(5, 5), (3, 4), (4, 1)]})
        self.assertEqual(self.tell(kept, world, "p"), World(FULL, 3, {"p": [0, 1, 2], "q": [1]}, {
            "r": [(0, 1), (1, 0), (2, 2)], "s": [(1, 2), (2, 0)]}))
        self.assertEqual(self.tell(kept, world, "q"),
                         World(FULL, 3, {"p": [1], "q": [0, 1, 2]}, {"r": [], "s": [(2, 2)]}))
        self.assertEqual(kept(kept(world, "p"), "p"), kept(world, "p"))
        self.assertEqual(kept(kept(world, "p"), "q").things, 1)

    def test_all_things(self):
        for world in [World(BOTH, 2, {"p": [0, 1]}, {"r": [(1, 0)]}), World(MARKED, 300, {"p": list(range(300))}, {})]:
            self.assertEqual(kept(world, "p"), world)

    def test_the_world_stays(self):
        world = World(BOTH, 2, {"p": [1]}, {"r": [(1, 1)]})
        self.assertEqual(kept(world, "p"), World(BOTH, 1, {"p": [0]}, {"r": [(0, 0)]}))
        self.assertEqual(world, World(BOTH, 2, {"p": [1]}, {"r": [(1, 1)]}))

    def test_errors(self):
        world = World(BOTH, 2, {"p": []}, {"r": []})
        self.refuse(NoThings, kept, world, "p")
        for thing in ["q", "r", "x", "", "P", b"p", None, 0, True, ("p",), ["p"]] + odd_objects():
            self.refuse(NoMark, kept, world, thing)
        maps = World(Tongue(("p",), ("f",), ("f",)), 2, {"p": []}, {"f": [(0, 0), (1, 1)]})
        for thing in ["p", "q", None, ["p"]]:
            self.refuse(HasFunctions, kept, maps, thing)


class TestErrors(Case):
    def test_sayings(self):
        wrong = [("mark", "o", "x"), ("tie", "p", "x", "y"), ["true"], of_size(101),
                 nested(20, lambda one: ("not", one), TRUE)]
        for at, thing in enumerate(wrong + odd_objects()):
            with self.subTest(at=at):
                for function, more in MORE.items():
                    self.refuse(NoSaying, function, FULL, thing, *more)

    def test_great_sayings(self):
        wide, deep = of_size(100), nested(19, lambda one: ("not", one), P_X)
        for function in (exchanged, turned, renamed):
            self.assertEqual(function(FULL, wide, *MORE[function]), wide)
        self.assertEqual(exchanged(FULL, deep), nested(19, lambda one: ("not", one), P_Y))

    def test_no_tie(self):
        for thing in ["p", "q", "t", "x", "", "R", b"r", None, 0, True, ("r",), ["r"], {"r": 1}] + odd_objects():
            self.refuse(NoTie, turned, FULL, R_XY, thing)
            self.refuse(NoSaying, turned, FULL, None, thing)
        self.refuse(NoTie, turned, NONE, TRUE, "r")

    def test_no_mark(self):
        for thing in ["r", "s", "o", "x", "", "P", b"p", None, 0, True, ("p",), ["p"], {"p": 1}] + odd_objects():
            self.refuse(NoMark, alone, FULL, TRUE, thing)
            self.refuse(NoSaying, alone, FULL, None, thing)
        self.refuse(NoMark, alone, BARE, TRUE, "p")


if __name__ == "__main__":
    unittest.main()
