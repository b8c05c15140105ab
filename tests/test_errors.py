"""Point 2 and the interface: the classes of pairsayings/errors.py."""

import ast
import copy
import inspect
import pickle
import unittest

import pairsayings.errors
from pairsayings.errors import NoName, NoSaying, NoTongue, NoWorld, SayingError
from pairsayings.tongues import Tongue
from pairsayings.worlds import World
from tests.things import odd_objects

BARE = """NoSaying NotClosed NoThing NoText NoThings NoWeights NoChance NoPart NoFacts NoNumber HasFunctions
    NotHeld NotLike NoGiven NoTie OtherTongue NoMark TooMany NoSaid NoUndo NoStep NoLine""".split()
FIELDS = {"NoTongue": "word", "NoWorld": "word", "NoName": "name"}


def error(name):
    return getattr(pairsayings.errors, name)


class TestClasses(unittest.TestCase):
    def test_the_base_derives_from_value_error(self):
        self.assertEqual(SayingError.__bases__, (ValueError,))

    def test_each_derives_directly_from_saying_error(self):
        for name in BARE + list(FIELDS):
            self.assertEqual(error(name).__bases__, (SayingError,), name)

    def test_the_file_defines_all_of_the_list_and_no_other(self):
        tree = ast.parse(inspect.getsource(pairsayings.errors))
        defined = [node.name for node in tree.body if isinstance(node, ast.ClassDef)]
        self.assertEqual(sorted(defined), sorted(BARE + list(FIELDS) + ["SayingError"]))
        for name in defined:
            self.assertEqual(error(name).__module__, "pairsayings.errors")
            self.assertEqual(error(name).__name__, name)

    def test_no_other_class_of_the_interface_derives_from_another(self):
        self.assertEqual(Tongue.__bases__, (object,))
        self.assertEqual(World.__bases__, (object,))


class TestWithoutFields(unittest.TestCase):
    def test_made_with_nothing(self):
        for name in BARE:
            made = error(name)()
            self.assertIsInstance(made, SayingError, name)
            self.assertEqual(vars(made), {}, name)

    def test_made_with_nothing_else(self):
        for name in BARE:
            with self.assertRaises(TypeError, msg=name):
                error(name)("word")
            with self.assertRaises(TypeError, msg=name):
                error(name)(word="word")

    def test_the_base_is_made_with_nothing(self):
        self.assertEqual(vars(SayingError()), {})


class TestWithAField(unittest.TestCase):
    def test_made_by_place_and_by_name(self):
        for name, field in FIELDS.items():
            self.assertEqual(vars(error(name)("marks")), {field: "marks"}, name)
            self.assertEqual(vars(error(name)(**{field: "marks"})), {field: "marks"}, name)

    def test_whatever_is_passed_is_kept(self):
        for at, thing in enumerate(odd_objects()):
            with self.subTest(at=at):
                self.assertIs(NoTongue(thing).word, thing)
                self.assertIs(NoWorld(thing).word, thing)
                self.assertIs(NoName(thing).name, thing)
                self.assertIs(NoName(name=thing).name, thing)

    def test_made_with_just_one(self):
        for name, field in FIELDS.items():
            with self.assertRaises(TypeError, msg=name):
                error(name)()
            with self.assertRaises(TypeError, msg=name):
                error(name)("a", "b")
            with self.assertRaises(TypeError, msg=name):
                error(name)("a", **{field: "b"})

    def test_the_field_is_the_named_one_alone(self):
        self.assertFalse(hasattr(NoTongue("marks"), "name"))
        self.assertFalse(hasattr(NoWorld("marks"), "name"))
        self.assertFalse(hasattr(NoName("a"), "word"))


class TestUse(unittest.TestCase):
    def test_raised_and_caught(self):
        for name in BARE:
            with self.assertRaises(error(name)):
                raise error(name)()
            with self.assertRaises(SayingError):
                raise error(name)()
        with self.assertRaises(ValueError) as caught:
            raise NoTongue("ties")
        self.assertEqual(caught.exception.word, "ties")

    def test_one_kind_is_no_other_kind(self):
        names = BARE + list(FIELDS)
        for one in names:
            for other in names:
                self.assertEqual(issubclass(error(one), error(other)), one == other, (one, other))

    def test_copied(self):
        self.assertIs(type(copy.copy(NoSaying())), NoSaying)
        self.assertEqual(copy.copy(NoTongue("ties")).word, "ties")
        self.assertEqual(pickle.loads(pickle.dumps(NoName("a"))).name, "a")


if __name__ == "__main__":
    unittest.main()
