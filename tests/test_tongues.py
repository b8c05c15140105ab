"""Points 2 and 3: tongues, their fields and errors, and when they are equal."""

import inspect
import unittest
from unittest import mock

from pairsayings.errors import NoTongue, SayingError
from pairsayings.tongues import Tongue
from pairsayings.worlds import World
from tests.things import odd_objects

NO_NAMES = ["x", "y", "true", "not", "and", "or", "each", "some"]
WRONG_NAMES = NO_NAMES + ["", "abcdefg", "aaaaaaaaaaaaaaaaaaaa", "A", "Red", "reD", "a1", "1", "a_b", "_", "a b", " a",
                          "a ", "a\n", "\na", "a,b", "a-b", "a`", "a{", "a@", "a[", "\x00", "a\x00", "-"]
GOOD_NAMES = ["a", "z", "m", "abcdef", "zzzzzz", "red", "ab", "xx", "xy", "yx", "trues", "tru", "nots", "no", "ands",
              "an", "ors", "o", "eachs", "eac", "somes", "som", "mark", "tie", "same"]


def refused(case, word, *args, **named):
    """Check that there is no such tongue, for the word."""
    with case.assertRaises(NoTongue) as caught:
        Tongue(*args, **named)
    case.assertEqual(caught.exception.word, word)


def fields(tongue):
    return (tongue.marks, tongue.ties, tongue.functions)


class TestMaking(unittest.TestCase):
    def test_any_numbers_of_names_that_may_be(self):
        for marks in [(), ("a",), ("a", "b"), ("c", "a", "b")]:
            for ties in [(), ("f",), ("g", "f")]:
                for functions in [()] + [(tie,) for tie in ties]:
                    wanted = (marks, ties, functions)
                    self.assertEqual(fields(Tongue(marks, ties, functions)), wanted)
                    self.assertEqual(fields(Tongue(list(marks), list(ties), list(functions))), wanted)

    def test_fields_are_tuples(self):
        made = Tongue(["a", "b"], ["f"], ["f"])
        for field in fields(made):
            self.assertIs(type(field), tuple)
        self.assertEqual(fields(made), (("a", "b"), ("f",), ("f",)))

    def test_by_name(self):
        self.assertEqual(fields(Tongue(functions=("f",), marks=("a",), ties=("f",))), (("a",), ("f",), ("f",)))
        self.assertEqual(list(inspect.signature(Tongue).parameters), ["marks", "ties", "functions"])
        refused(self, "marks", functions=(), ties=(), marks=None)
        refused(self, "ties", functions=(), ties=None, marks=())
        refused(self, "functions", functions=None, ties=(), marks=())

    def test_defined_in_its_file(self):
        self.assertEqual(Tongue.__module__, "pairsayings.tongues")
        self.assertIn("__init__", vars(Tongue))

    def test_what_is_changed_afterwards(self):
        marks, ties, functions = ["a"], ["f"], ["f"]
        made = Tongue(marks, ties, functions)
        marks.append("b")
        ties[0] = "g"
        functions.clear()
        self.assertEqual(fields(made), (("a",), ("f",), ("f",)))

    def test_arguments_stay_as_they_are(self):
        marks, ties, functions = ["b", "a"], ["g", "f"], ["f"]
        Tongue(marks, ties, functions)
        self.assertEqual((marks, ties, functions), (["b", "a"], ["g", "f"], ["f"]))
        refused(self, "functions", marks, ties, ["b"])
        self.assertEqual((marks, ties), (["b", "a"], ["g", "f"]))


class TestNames(unittest.TestCase):
    def test_good_names(self):
        for name in GOOD_NAMES:
            with self.subTest(name=name):
                self.assertEqual(Tongue((name,), (), ()).marks, (name,))
                self.assertEqual(fields(Tongue((), [name], [name])), ((), (name,), (name,)))

    def test_wrong_names(self):
        for name in WRONG_NAMES:
            with self.subTest(name=name):
                refused(self, "marks", (name,), (), ())
                refused(self, "marks", ("a", name), (), ())
                refused(self, "ties", (), (name,), ())
                refused(self, "ties", ("a",), ("f", name), ("f",))
                refused(self, "functions", (), ("f",), (name,))

    def test_every_sign(self):
        for code in range(128):
            sign = chr(code)
            if "a" <= sign <= "z":
                self.assertEqual(Tongue(("a" + sign,), (), ()).marks, ("a" + sign,))
            else:
                refused(self, "marks", ("a" + sign,), (), ())


class TestTooMany(unittest.TestCase):
    def test_one_too_many(self):
        refused(self, "marks", ("a", "b", "c", "d"), (), ())
        refused(self, "marks", ["a", "b", "c", "d"], ["f"], ["f"])
        refused(self, "ties", (), ("f", "g", "h"), ())
        refused(self, "ties", ("a",), ["f", "g", "h"], ["f"])
        refused(self, "functions", (), ("f", "g"), ("f", "g"))
        refused(self, "functions", (), ["f", "g"], ["g", "f"])

    def test_a_name_twice(self):
        refused(self, "marks", ("a", "a"), (), ())
        refused(self, "marks", ("a", "b", "a"), (), ())
        refused(self, "ties", (), ("f", "f"), ())
        refused(self, "ties", ("a", "b"), ("a",), ())
        refused(self, "ties", ("a", "b"), ("f", "b"), ("f",))
        refused(self, "ties", ["b"], ["b"], ["b"])
        refused(self, "functions", (), ("f",), ("f", "f"))

    def test_a_function_that_is_no_tie(self):
        refused(self, "functions", (), (), ("f",))
        refused(self, "functions", ("a",), ("f",), ("a",))
        refused(self, "functions", ("a",), ("f", "g"), ["h"])
        refused(self, "functions", ("a",), ("ff",), ("f",))
        refused(self, "functions", (), ("f",), ("",))


class TestOtherObjects(unittest.TestCase):
    def test_in_the_place_of_a_sequence(self):
        for at, thing in enumerate(odd_objects() + ["abc", "red"]):
            with self.subTest(at=at):
                refused(self, "marks", thing, (), ())
                refused(self, "ties", (), thing, ())
                refused(self, "functions", (), ("red",), thing)

    def test_in_the_place_of_a_name(self):
        for at, thing in enumerate(odd_objects() + [(), [], {}]):
            with self.subTest(at=at):
                refused(self, "marks", (thing,), (), ())
                refused(self, "marks", ["a", thing, "b"], (), ())
                refused(self, "ties", (), (thing,), ())
                refused(self, "ties", ("red",), ["f", thing], ())
                refused(self, "functions", (), ("red",), (thing,))
                refused(self, "functions", (), ("red",), [thing])

    def test_empty_objects_that_are_no_sequences(self):
        for thing in ["", b"", {}, None, False, 0, range(0)]:
            refused(self, "marks", thing, (), ())
            refused(self, "ties", (), thing, ())
            refused(self, "functions", (), (), thing)

    def test_lists_and_tuples_are_no_names(self):
        for thing in [["a"], ("a",), (("a",),), [["a"]]]:
            refused(self, "marks", (thing,), (), ())
            refused(self, "ties", (), (thing,), ())
            refused(self, "functions", (), ("a",), (thing,))


class TestOrderOfErrors(unittest.TestCase):
    def test_the_first_word_counts(self):
        refused(self, "marks", None, None, None)
        refused(self, "marks", ("x",), ("x",), ("x",))
        refused(self, "marks", ("a", "a"), ("a",), ("b",))
        refused(self, "marks", ("A",), ("f",), ("g",))
        refused(self, "marks", 0, ("f", "f"), ())
        refused(self, "ties", ("a",), None, None)
        refused(self, "ties", ("a",), ("a",), ("b",))
        refused(self, "ties", (), ("f", "g", "h"), ("f", "g"))

    def test_a_fault_in_functions_does_not_hide_others(self):
        refused(self, "marks", ("a", "b", "c", "d"), (), 0)
        refused(self, "ties", (), ("not",), ("not",))

    def test_it_is_an_error_of_the_package(self):
        with self.assertRaises(SayingError):
            Tongue((), (), ("f",))
        with self.assertRaises(ValueError):
            Tongue((), (), ("f",))


class TestEquality(unittest.TestCase):
    def setUp(self):
        self.tongue = Tongue(("a", "b"), ("f", "g"), ("f",))

    def check(self, other, equal):
        self.assertIs(self.tongue == other, equal)
        self.assertIs(other == self.tongue, equal)
        self.assertIs(self.tongue != other, not equal)
        self.assertIs(other != self.tongue, not equal)

    def test_equal(self):
        self.check(self.tongue, True)
        self.check(Tongue(("a", "b"), ("f", "g"), ("f",)), True)
        self.check(Tongue(["a", "b"], ["f", "g"], ["f"]), True)
        self.assertTrue(Tongue((), (), ()) == Tongue([], [], []))
        self.assertFalse(Tongue((), (), ()) != Tongue([], [], []))

    def test_one_field_differs(self):
        self.check(Tongue(("a", "c"), ("f", "g"), ("f",)), False)
        self.check(Tongue(("a",), ("f", "g"), ("f",)), False)
        self.check(Tongue((), ("f", "g"), ("f",)), False)
        self.check(Tongue(("a", "b"), ("f", "h"), ("f",)), False)
        self.check(Tongue(("a", "b"), ("f",), ("f",)), False)
        self.check(Tongue(("a", "b"), ("f", "g"), ("g",)), False)
        self.check(Tongue(("a", "b"), ("f", "g"), ()), False)

    def test_the_order_of_names_differs(self):
        self.check(Tongue(("b", "a"), ("f", "g"), ("f",)), False)
        self.check(Tongue(("a", "b"), ("g", "f"), ("f",)), False)

    def test_unequal_to_everything_else(self):
        others = odd_objects() + [(("a", "b"), ("f", "g"), ("f",)), [("a", "b"), ("f", "g"), ("f",)], vars(self.tongue),
                                 World(self.tongue, 1, {"a": [], "b": []}, {"f": [(0, 0)], "g": []})]
        for at, other in enumerate(others):
            with self.subTest(at=at):
                self.check(other, False)

    def test_unequal_to_what_has_the_same_fields(self):
        other = mock.Mock(marks=("a", "b"), ties=("f", "g"), functions=("f",))
        self.assertFalse(self.tongue == other)
        self.assertTrue(self.tongue != other)

    def test_in_lists(self):
        self.assertIn(Tongue(["a", "b"], ["f", "g"], ["f"]), [None, self.tongue])
        self.assertNotIn(Tongue(["a"], ["f", "g"], ["f"]), [None, self.tongue])


if __name__ == "__main__":
    unittest.main()
