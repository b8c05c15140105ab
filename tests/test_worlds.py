"""Points 2 and 5: worlds, their fields and errors, and when they are equal."""

import unittest

from pairsayings.errors import NoWorld, SayingError
from pairsayings.tongues import Tongue
from pairsayings.worlds import World
from tests.cases import Case, named
from tests.things import odd_objects

WEB = Tongue(("red",), ("to",), ())
RICH = Tongue(("b", "a"), ("g", "f"), ("f",))
EMPTY = Tongue((), (), ())
MAPS = Tongue((), ("f",), ("f",))


def fields(world):
    return (world.tongue, world.things, world.marks, world.ties)


class WorldCase(Case):
    def refuse_world(self, word, *args):
        """Check that there is no such world, for the word, by place and by name."""
        with self.assertRaises(NoWorld) as caught:
            World(*args)
        self.assertEqual(caught.exception.word, word)
        with self.assertRaises(NoWorld) as caught:
            World(**named(World, args))
        self.assertEqual(caught.exception.word, word)


class TestMaking(WorldCase):
    def test_fields(self):
        made = World(WEB, 3, {"red": [2]}, {"to": [(0, 1), (1, 1), (2, 0)]})
        self.assertEqual(fields(made), (WEB, 3, {"red": (2,)}, {"to": ((0, 1), (1, 1), (2, 0))}))
        self.assertIs(type(made.things), int)

    def test_by_name(self):
        made = World(ties={"to": ()}, marks={"red": ()}, things=1, tongue=WEB)
        self.assertEqual(fields(made), (WEB, 1, {"red": ()}, {"to": ()}))
        self.assertEqual(made, self.tell(World, WEB, 1, {"red": []}, {"to": []}))

    def test_defined_in_its_file(self):
        self.assertEqual(World.__module__, "pairsayings.worlds")
        self.assertIn("__init__", vars(World))

    def test_without_marks_and_ties(self):
        for things in (1, 2, 300):
            self.assertEqual(fields(World(EMPTY, things, {}, {})), (EMPTY, things, {}, {}))

    def test_any_order(self):
        made = World(RICH, 3, {"a": (2, 0), "b": [1, 2, 0]}, {"f": ((2, 0), (0, 2), (1, 1)),
                                                              "g": [(1, 2), (1, 0), (0, 2)]})
        self.assertEqual(made.marks, {"b": (0, 1, 2), "a": (0, 2)})
        self.assertEqual(made.ties, {"g": ((0, 2), (1, 0), (1, 2)), "f": ((0, 2), (1, 1), (2, 0))})

    def test_ascending_as_numbers(self):
        made = World(WEB, 12, {"red": [11, 2, 10]}, {"to": [(11, 2), (2, 11), (10, 0), (2, 3)]})
        self.assertEqual(made.marks, {"red": (2, 10, 11)})
        self.assertEqual(made.ties, {"to": ((2, 3), (2, 11), (10, 0), (11, 2))})

    def test_fields_are_dicts_of_tuples(self):
        made = World(WEB, 2, {"red": [1]}, {"to": [(1, 0)]})
        self.assertIs(type(made.marks), dict)
        self.assertIs(type(made.ties), dict)
        self.assertIs(type(made.marks["red"]), tuple)
        self.assertIs(type(made.ties["to"]), tuple)
        self.assertIs(type(made.ties["to"][0]), tuple)

    def test_one_thing_and_300(self):
        self.assertEqual(World(WEB, 1, {"red": [0]}, {"to": [(0, 0)]}).ties, {"to": ((0, 0),)})
        made = World(WEB, 300, {"red": list(range(299, -1, -1))}, {"to": [(299, 0), (0, 299)]})
        self.assertEqual(made.marks, {"red": tuple(range(300))})
        self.assertEqual(made.ties, {"to": ((0, 299), (299, 0))})

    def test_all_pairs(self):
        pairs = [(one, other) for one in range(90) for other in range(90)]
        self.assertEqual(World(WEB, 90, {"red": ()}, {"to": pairs[::-1]}).ties["to"], tuple(pairs))

    def test_a_function(self):
        for ends in [(0, 0, 0), (2, 1, 0), (1, 2, 2)]:
            pairs = tuple(enumerate(ends))
            self.assertEqual(World(MAPS, 3, {}, {"f": pairs}).ties, {"f": pairs})
        self.assertEqual(len(World(MAPS, 300, {}, {"f": [(one, 7) for one in range(300)]}).ties["f"]), 300)

    def test_many_faults_are_no_faults_of_other_ties(self):
        made = World(RICH, 2, {"b": [], "a": []}, {"g": [(0, 0), (0, 1)], "f": [(0, 0), (1, 1)]})
        self.assertEqual(made.ties["g"], ((0, 0), (0, 1)))


class TestKept(WorldCase):
    def test_new_dicts_each_time(self):
        made = World(WEB, 2, {"red": [1]}, {"to": [(1, 0)]})
        self.assertIsNot(made.marks, made.marks)
        self.assertIsNot(made.ties, made.ties)
        made.marks.clear()
        made.marks["red"] = (0,)
        made.ties["to"] = ()
        made.ties["more"] = ()
        self.assertEqual(fields(made), (WEB, 2, {"red": (1,)}, {"to": ((1, 0),)}))

    def test_what_is_changed_afterwards(self):
        red, to = [1], [(1, 0)]
        marks, ties = {"red": red}, {"to": to}
        made = World(WEB, 2, marks, ties)
        red.append(0)
        to.clear()
        marks["blue"] = []
        del ties["to"]
        self.assertEqual(fields(made), (WEB, 2, {"red": (1,)}, {"to": ((1, 0),)}))

    def test_arguments_stay_as_they_are(self):
        marks, ties = {"red": [2, 0]}, {"to": [(2, 1), (0, 0)]}
        World(WEB, 3, marks, ties)
        self.assertEqual((marks, ties), ({"red": [2, 0]}, {"to": [(2, 1), (0, 0)]}))
        self.refuse_world("ties", WEB, 2, {"red": [1, 0]}, ties)
        self.assertEqual(ties, {"to": [(2, 1), (0, 0)]})


class TestThings(WorldCase):
    def test_numbers(self):
        for things in (0, 301, -1, -300, 1000, 2 ** 70):
            self.refuse_world("things", EMPTY, things, {}, {})

    def test_flags_and_other_kinds(self):
        others = [one for one in odd_objects() if not (type(one) is int and 1 <= one <= 300)]
        for at, thing in enumerate(others + [True, False, "1", b"1", (1,), [1], {1: 1}, None]):
            with self.subTest(at=at):
                self.refuse_world("things", EMPTY, thing, {}, {})


class TestMarks(WorldCase):
    def refuse_marks(self, marks, tongue=WEB, things=3):
        ties = {name: [(one, one) for one in range(things)] for name in tongue.ties}
        self.refuse_world("marks", tongue, things, marks, ties)

    def test_no_dicts(self):
        for at, thing in enumerate(odd_objects() + [[], (), [("red", [])], (("red", ()),), "red", ["red"]]):
            with self.subTest(at=at):
                self.refuse_marks(thing)
        for thing in [[], (), None, "", 0, False]:
            self.refuse_marks(thing, EMPTY)

    def test_other_names(self):
        for marks in [{}, {"blue": []}, {"to": []}, {"Red": []}, {b"red": []}, {0: []}, {None: []}, {("red",): []},
                      {"red": [], "blue": []}, {"red": [], "to": []}, {"red": [], b"blue": []}, {"red": [], None: []}]:
            self.refuse_marks(marks)
        self.refuse_marks({"a": []}, RICH)
        self.refuse_marks({"a": [], "b": [], "c": []}, RICH)
        self.refuse_marks({"a": [], "c": []}, RICH)
        self.refuse_marks({"a": []}, EMPTY)

    def test_no_sequences(self):
        for at, thing in enumerate(odd_objects() + ["", b"", "0", {}, {0: 1}, range(2), None, 0, b"\x00"]):
            with self.subTest(at=at):
                self.refuse_marks({"red": thing})
                self.refuse_marks({"a": [], "b": thing}, RICH)

    def test_a_thing_twice(self):
        for told in [[0, 0], (2, 1, 2), [0, 1, 2, 0]]:
            self.refuse_marks({"red": told})
            self.refuse_marks({"b": [0], "a": told}, RICH)

    def test_what_is_no_thing(self):
        for wrong in [3, -1, -3, 300, 2 ** 70, -2 ** 70, True, False, None, "0", b"0", "", (0,), [0], (), {},
                      10 ** 5000]:
            for told in [[wrong], (wrong,), [0, wrong], [wrong, 0], (1, 2, wrong)]:
                self.refuse_marks({"red": told})

    def test_odd_objects_as_things(self):
        for at, thing in enumerate(odd_objects()):
            if not (type(thing) is int and 0 <= thing < 3):
                with self.subTest(at=at):
                    self.refuse_marks({"red": [thing]})
                    self.refuse_marks({"red": (0, thing)})

    def test_things_of_one_thing(self):
        self.refuse_marks({"red": [1]}, things=1)
        self.refuse_marks({"red": [True]}, things=1)
        self.refuse_marks({"red": [False]}, things=1)


class TestTies(WorldCase):
    def refuse_ties(self, ties, tongue=WEB, things=3):
        self.refuse_world("ties", tongue, things, {name: (0,) for name in tongue.marks}, ties)

    def test_no_dicts(self):
        for at, thing in enumerate(odd_objects() + [[], (), [("to", [])], (("to", ()),), "to", ["to"]]):
            with self.subTest(at=at):
                self.refuse_ties(thing)
        for thing in [[], (), None, "", 0, False]:
            self.refuse_ties(thing, EMPTY)

    def test_other_names(self):
        for ties in [{}, {"from": []}, {"red": []}, {"To": []}, {b"to": []}, {0: []}, {None: []}, {("to",): []},
                     {"to": [], "from": []}, {"to": [], "red": []}, {"to": [], b"from": []}]:
            self.refuse_ties(ties)
        every = [(0, 0), (1, 1), (2, 2)]
        self.refuse_ties({"f": every}, RICH)
        self.refuse_ties({"g": every}, RICH)
        self.refuse_ties({"f": every, "g": every, "h": every}, RICH)
        self.refuse_ties({"f": []}, EMPTY)

    def test_no_sequences(self):
        for at, thing in enumerate(odd_objects() + ["", b"", "0", {}, {(0, 1): 1}, range(2), range(0), None, 0]):
            with self.subTest(at=at):
                self.refuse_ties({"to": thing})
                self.refuse_ties({"g": thing, "f": [(0, 0), (1, 1), (2, 2)]}, RICH)
                self.refuse_ties({"g": [], "f": thing}, RICH)

    def test_what_is_no_pair(self):
        for wrong in [(), (0,), (0, 1, 2), [0, 1], [], "01", b"01", 0, 1, None, True, {0: 1, 1: 0}, range(2),
                      ((0, 1),), ((0, 1), 1), (0, (1,)), ([0], 1), (0, [1])]:
            for told in [[wrong], (wrong,), [(0, 1), wrong], [wrong, (0, 1)]]:
                self.refuse_ties({"to": told})

    def test_what_is_no_thing_in_a_pair(self):
        for wrong in [3, -1, 300, 2 ** 70, True, False, None, "0", b"0", "", (0,), [0], {}]:
            self.refuse_ties({"to": [(wrong, 0)]})
            self.refuse_ties({"to": [(0, wrong)]})
            self.refuse_ties({"to": [(1, 2), (wrong, wrong)]})

    def test_odd_objects_in_pairs(self):
        for at, thing in enumerate(odd_objects()):
            with self.subTest(at=at):
                self.refuse_ties({"to": [thing]})
                if not (type(thing) is int and 0 <= thing < 3):
                    self.refuse_ties({"to": [(thing, 0)]})
                    self.refuse_ties({"to": [(0, 1), (0, thing)]})

    def test_a_pair_twice(self):
        for told in [[(0, 1), (0, 1)], ((2, 2), (1, 0), (2, 2))]:
            self.refuse_ties({"to": told})
        self.assertEqual(World(WEB, 3, {"red": []}, {"to": [(0, 1), (1, 0)]}).ties, {"to": ((0, 1), (1, 0))})

    def test_functions(self):
        for told in [[], [(0, 0)], [(0, 0), (1, 0)], [(0, 0), (1, 0), (1, 1)], [(0, 0), (0, 1), (0, 2)],
                     [(0, 0), (1, 1), (2, 2), (2, 0)], [(0, 0), (1, 1), (2, 2), (2, 2)],
                     [(0, 1), (0, 2), (1, 0), (2, 0)],
                     [(0, 0), (1, 1), (3, 2)], [(0, 0), (1, 1), (2, 3)]]:
            self.refuse_ties({"f": told}, MAPS)
            self.refuse_ties({"g": [], "f": told}, RICH)

    def test_a_function_must_lead_from_each_thing_not_to_each(self):
        self.refuse_ties({"f": [(0, 0), (0, 1)]}, MAPS, 2)
        self.assertEqual(World(MAPS, 2, {}, {"f": [(1, 0), (0, 0)]}).ties, {"f": ((0, 0), (1, 0))})


class TestOrderOfErrors(WorldCase):
    def test_the_first_word_counts(self):
        good_marks, good_ties = {"red": [0]}, {"to": [(0, 0)]}
        for things in (0, None, True):
            for marks in (good_marks, None, {"red": [5]}):
                for ties in (good_ties, None, {"to": [(5, 5)]}):
                    self.refuse_world("things", WEB, things, marks, ties)
        for marks in (None, {}, {"red": [5]}, {"red": [0, 0]}):
            for ties in (good_ties, None, {"to": [(5, 5)]}):
                self.refuse_world("marks", WEB, 2, marks, ties)
        for ties in (None, {}, {"to": [(5, 5)]}):
            self.refuse_world("ties", WEB, 2, good_marks, ties)

    def test_it_is_an_error_of_the_package(self):
        with self.assertRaises(SayingError):
            World(WEB, 0, {}, {})
        with self.assertRaises(ValueError):
            World(WEB, 1, {}, {})


class TestEquality(WorldCase):
    def setUp(self):
        self.world = World(RICH, 2, {"a": [0], "b": [0, 1]}, {"f": [(0, 1), (1, 1)], "g": [(1, 0), (0, 0)]})

    def check(self, other, equal):
        self.assertIs(self.world == other, equal)
        self.assertIs(other == self.world, equal)
        self.assertIs(self.world != other, not equal)
        self.assertIs(other != self.world, not equal)

    def test_equal(self):
        self.check(self.world, True)
        self.check(World(Tongue(["b", "a"], ["g", "f"], ["f"]), 2, {"b": (1, 0), "a": (0,)},
                         {"g": ((0, 0), (1, 0)), "f": ((1, 1), (0, 1))}), True)
        self.assertTrue(World(EMPTY, 5, {}, {}) == World(EMPTY, 5, {}, {}))
        self.assertFalse(World(EMPTY, 5, {}, {}) != World(EMPTY, 5, {}, {}))

    def test_one_field_differs(self):
        marks, ties = self.world.marks, self.world.ties
        self.check(World(RICH, 2, {"a": [1], "b": [0, 1]}, ties), False)
        self.check(World(RICH, 2, {"a": [], "b": [0, 1]}, ties), False)
        self.check(World(RICH, 2, {"a": [0], "b": [0]}, ties), False)
        self.check(World(RICH, 2, marks, {"f": [(0, 1), (1, 0)], "g": [(1, 0), (0, 0)]}), False)
        self.check(World(RICH, 2, marks, {"f": [(0, 1), (1, 1)], "g": [(1, 0), (0, 1)]}), False)
        self.check(World(RICH, 2, marks, {"f": [(0, 1), (1, 1)], "g": []}), False)
        self.check(World(Tongue(("a", "b"), ("g", "f"), ("f",)), 2, marks, ties), False)
        self.check(World(Tongue(("b", "a"), ("f", "g"), ("f",)), 2, marks, ties), False)
        self.check(World(Tongue(("b", "a"), ("g", "f"), ()), 2, marks, ties), False)

    def test_the_number_of_things_differs(self):
        for many in (1, 3, 300):
            self.assertFalse(World(EMPTY, 2, {}, {}) == World(EMPTY, many, {}, {}))
            self.assertTrue(World(EMPTY, 2, {}, {}) != World(EMPTY, many, {}, {}))
        self.assertFalse(World(WEB, 2, {"red": []}, {"to": []}) == World(WEB, 3, {"red": []}, {"to": []}))

    def test_other_kinds(self):
        others = [fields(self.world), list(fields(self.world)), vars(self.world), RICH, World, None, 2]
        for at, other in enumerate(odd_objects() + others):
            with self.subTest(at=at):
                self.check(other, False)

    def test_in_lists(self):
        same = World(RICH, 2, self.world.marks, self.world.ties)
        self.assertIn(same, [None, self.world])
        self.assertNotIn(same, [None, World(EMPTY, 2, {}, {})])


if __name__ == "__main__":
    unittest.main()
