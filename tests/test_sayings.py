"""Points 2 and 4: what a saying of a tongue is, and its free names."""

import inspect
import itertools
import unittest

from pairsayings.errors import NoSaying, SayingError
from pairsayings.sayings import free
from pairsayings.tongues import Tongue
from tests.things import TRUE, depth_of, nested, odd_objects, of_size, tuples_in

WEB = Tongue(("red",), ("to",), ())
RED_X = ("mark", "red", "x")
RED_Y = ("mark", "red", "y")
TO_XY = ("tie", "to", "x", "y")
SAME = ("same", "x", "y")
ATOMS = [TRUE, RED_X, RED_Y, TO_XY, ("tie", "to", "y", "x"), ("tie", "to", "x", "x"), ("tie", "to", "y", "y"),
         SAME, ("same", "y", "x"), ("same", "x", "x"), ("same", "y", "y")]


def one_deeper(sayings):
    """All sayings with one of these, or two of them, directly in them."""
    made = [("not", one) for one in sayings]
    made += [(word, v, one) for word in ("each", "some") for v in "xy" for one in sayings]
    made += [(word, one, other) for word in ("and", "or") for one in sayings for other in sayings]
    return made


def told_free(saying, ended=()):
    """The free names as a set, found from outside with the names that have been ended on the way."""
    if saying[0] in ("each", "some"):
        return told_free(saying[2], ended + (saying[1],))
    found = set()
    for one in saying[1:]:
        if isinstance(one, tuple):
            found |= told_free(one, ended)
        elif one in ("x", "y") and one not in ended:
            found.add(one)
    return found


class Case(unittest.TestCase):
    def check(self, saying, names, tongue=WEB):
        """Check that it is a saying with these free names, by place and by name."""
        found = free(tongue, saying)
        self.assertEqual(found, tuple(names))
        self.assertIs(type(found), tuple)
        self.assertEqual(free(saying=saying, tongue=tongue), found)

    def refuse(self, thing, tongue=WEB):
        """Check that it is no saying, by place and by name."""
        with self.assertRaises(NoSaying):
            free(tongue, thing)
        with self.assertRaises(NoSaying):
            free(saying=thing, tongue=tongue)


class TestFree(Case):
    def test_examples_of_the_document(self):
        out = ("some", "y", ("and", ("tie", "to", "x", "y"), ("not", ("same", "x", "y"))))
        self.assertEqual((free(WEB, out), free(WEB, ("each", "x", out))), (("x",), ()))

    def test_the_interface(self):
        self.assertEqual(free.__module__, "pairsayings.sayings")
        self.assertEqual(list(inspect.signature(free).parameters), ["tongue", "saying"])

    def test_without_sayings_within(self):
        self.check(TRUE, "")
        self.check(RED_X, "x")
        self.check(RED_Y, "y")
        self.check(TO_XY, "xy")
        self.check(("tie", "to", "y", "x"), "xy")
        self.check(("tie", "to", "x", "x"), "x")
        self.check(("tie", "to", "y", "y"), "y")
        self.check(SAME, "xy")
        self.check(("same", "y", "x"), "xy")
        self.check(("same", "x", "x"), "x")
        self.check(("same", "y", "y"), "y")

    def test_not_and_or(self):
        self.check(("not", RED_Y), "y")
        self.check(("not", TRUE), "")
        for word in ("and", "or"):
            self.check((word, RED_Y, RED_X), "xy")
            self.check((word, RED_X, RED_X), "x")
            self.check((word, TRUE, RED_Y), "y")
            self.check((word, RED_Y, TRUE), "y")
            self.check((word, TRUE, TRUE), "")

    def test_each_and_some_end_what_a_name_meant(self):
        for word in ("each", "some"):
            self.check((word, "x", RED_X), "")
            self.check((word, "y", RED_X), "x")
            self.check((word, "x", TO_XY), "y")
            self.check((word, "y", TO_XY), "x")
            self.check((word, "x", TRUE), "")
            self.check((word, "x", (word, "y", TO_XY)), "")
            self.check((word, "y", (word, "y", TO_XY)), "x")

    def test_the_same_name_bound_within(self):
        self.check(("each", "x", ("and", RED_X, ("some", "x", RED_X))), "")
        self.check(("each", "x", ("some", "x", TO_XY)), "y")
        self.check(("each", "x", ("some", "y", ("each", "x", TO_XY))), "")
        self.check(("each", "y", ("some", "y", ("each", "y", RED_X))), "x")

    def test_a_part_beside_it_still_means_the_outer_one(self):
        for word in ("and", "or"):
            self.check((word, ("each", "x", RED_X), RED_X), "x")
            self.check((word, RED_X, ("each", "x", RED_X)), "x")
            self.check((word, ("some", "y", TO_XY), SAME), "xy")
            self.check((word, ("each", "x", RED_X), ("some", "y", RED_Y)), "")
            self.check(("each", "y", (word, ("each", "x", TO_XY), RED_X)), "x")
            self.check(("each", "x", (word, ("each", "x", RED_X), RED_X)), "")

    def test_all_small_sayings(self):
        two = ATOMS + one_deeper(ATOMS)
        three = one_deeper(two[:4] + two[11:40] + two[60:260:17])
        for saying in two + three:
            wanted = told_free(saying)
            self.assertEqual(free(WEB, saying), tuple(name for name in "xy" if name in wanted), saying)

    def test_any_tongue(self):
        tongue = Tongue(("a", "b", "c"), ("f", "g"), ("g",))
        for mark in "abc":
            self.check(("mark", mark, "x"), "x", tongue)
        for tie in "fg":
            self.check(("tie", tie, "y", "x"), "xy", tongue)
        self.check(("each", "x", ("or", ("mark", "c", "x"), ("tie", "g", "x", "y"))), "y", tongue)

    def test_names_that_are_words_of_sayings(self):
        tongue = Tongue(("mark", "same"), ("tie",), ())
        self.check(("mark", "mark", "x"), "x", tongue)
        self.check(("mark", "same", "y"), "y", tongue)
        self.check(("tie", "tie", "x", "y"), "xy", tongue)
        self.refuse(("mark", "tie", "x"), tongue)
        self.refuse(("tie", "mark", "x", "y"), tongue)

    def test_without_marks_and_ties(self):
        empty = Tongue((), (), ())
        self.check(("each", "x", SAME), "y", empty)
        self.check(TRUE, "", empty)
        self.refuse(RED_X, empty)
        self.refuse(TO_XY, empty)

    def test_equal_calls_give_equal_results(self):
        tongue = Tongue(["red"], ["to"], [])
        saying = ("and", RED_Y, ("each", "x", TO_XY))
        self.assertEqual(free(tongue, saying), free(WEB, saying))
        self.assertEqual(free(tongue, saying), ("y",))
        self.assertEqual(tongue, WEB)


class TestNoSaying(Case):
    def refuse_within(self, thing):
        """Check that neither it nor any saying around it is one."""
        self.refuse(thing)
        self.refuse(("not", thing))
        self.refuse(("each", "x", ("some", "y", thing)))
        for word in ("and", "or"):
            self.refuse((word, thing, TRUE))
            self.refuse((word, TRUE, thing))
            self.refuse((word, ("not", RED_X), ("not", (word, RED_Y, ("some", "x", thing)))))
        self.refuse(nested(15, lambda one: ("or", TO_XY, ("not", one)), thing))

    def test_objects_of_any_kind(self):
        for at, thing in enumerate(odd_objects() + ["red", "x", "y", [], (), {}]):
            with self.subTest(at=at):
                self.refuse_within(thing)

    def test_objects_of_any_kind_within_each_place(self):
        for at, thing in enumerate(odd_objects() + [(), [], {}, ("x",), ("red",)]):
            with self.subTest(at=at):
                if not isinstance(thing, str) or thing not in ("true", "not", "and", "or"):
                    self.refuse_within((thing,))
                    self.refuse_within((thing, TRUE))
                    self.refuse_within((thing, TRUE, TRUE))
                self.refuse_within((thing, "red", "x"))
                self.refuse_within((thing, "to", "x", "y"))
                self.refuse_within(("mark", thing, "x"))
                self.refuse_within(("mark", "red", thing))
                self.refuse_within(("tie", thing, "x", "y"))
                self.refuse_within(("tie", "to", thing, "y"))
                self.refuse_within(("tie", "to", "x", thing))
                self.refuse_within(("same", thing, "y"))
                self.refuse_within(("same", "x", thing))
                self.refuse_within(("each", thing, TRUE))
                self.refuse_within(("some", thing, TRUE))

    def test_lists_for_tuples(self):
        for saying in [TRUE, RED_X, TO_XY, SAME, ("not", TRUE), ("and", TRUE, TRUE), ("or", TRUE, TRUE),
                       ("each", "x", RED_X), ("some", "y", RED_Y)]:
            self.refuse_within(list(saying))
            self.refuse_within([saying])
            self.refuse_within((saying,))

    def test_unknown_words(self):
        for word in ["", "True", "TRUE", "false", "all", "iff", "red", "to", "x", "true ", "Each", "names", "name"]:
            self.refuse_within((word,))
            self.refuse_within((word, TRUE))
            self.refuse_within((word, TRUE, TRUE))
            self.refuse_within((word, "x", TRUE))
            self.refuse_within((word, "red", "x"))
            self.refuse_within((word, "to", "x", "y"))

    def test_wrong_lengths(self):
        for saying in [TRUE, RED_X, TO_XY, SAME, ("not", TRUE), ("and", TRUE, TRUE), ("or", TRUE, TRUE),
                       ("each", "x", TRUE), ("some", "y", TRUE)]:
            for end in range(len(saying)):
                self.refuse_within(saying[:end])
            self.refuse_within(saying[1:])
            for more in [None, "x", TRUE, ()]:
                self.refuse_within(saying + (more,))

    def test_a_word_with_what_stands_behind_another_one(self):
        parts = {"true": TRUE, "mark": RED_X, "tie": TO_XY, "same": SAME, "not": ("not", TRUE),
                 "and": ("and", TRUE, TRUE), "each": ("each", "x", TRUE)}
        for one, other in itertools.permutations(parts, 2):
            self.refuse_within((one,) + parts[other][1:])

    def test_wrong_names_of_things(self):
        for name in ["z", "X", "Y", "xy", "", " x", "x ", "red", "to", 0, 1, None, b"x", ("x",), ["x"], True]:
            self.refuse_within(("mark", "red", name))
            self.refuse_within(("tie", "to", name, "y"))
            self.refuse_within(("tie", "to", "x", name))
            self.refuse_within(("same", name, "y"))
            self.refuse_within(("same", "x", name))
            self.refuse_within(("each", name, TRUE))
            self.refuse_within(("some", name, RED_X))

    def test_marks_as_ties_and_the_other_way_about(self):
        self.refuse_within(("mark", "to", "x"))
        self.refuse_within(("tie", "red", "x", "y"))

    def test_names_of_another_tongue(self):
        self.refuse_within(("mark", "blue", "x"))
        self.refuse_within(("mark", "re", "x"))
        self.refuse_within(("mark", "redd", "x"))
        self.refuse_within(("tie", "from", "x", "y"))
        self.refuse_within(("tie", "t", "x", "y"))
        self.check(("mark", "blue", "x"), "x", Tongue(("blue",), (), ()))
        self.refuse(RED_X, Tongue(("blue",), ("to",), ()))
        self.refuse(TO_XY, Tongue(("red",), ("from",), ()))

    def test_names_and_sayings_at_each_others_places(self):
        self.refuse_within(("not", "x"))
        self.refuse_within(("and", "x", TRUE))
        self.refuse_within(("or", TRUE, "y"))
        self.refuse_within(("each", TRUE, "x"))
        self.refuse_within(("each", "x", "y"))
        self.refuse_within(("same", TRUE, TRUE))
        self.refuse_within(("mark", "x", "red"))
        self.refuse_within(("tie", "x", "y", "to"))

    def test_nested_40_deep(self):
        for wrap in [lambda one: ("not", one), lambda one: ("each", "x", one), lambda one: ("and", one, TRUE),
                     lambda one: ["not", one], lambda one: {"not": one}, lambda one: (one,), lambda one: [one]]:
            self.refuse(nested(40, wrap, TRUE))
            self.refuse(nested(40, wrap, None))

    def test_it_is_an_error_of_the_package(self):
        with self.assertRaises(SayingError):
            free(WEB, None)
        with self.assertRaises(ValueError):
            free(WEB, ["true"])

    def test_what_is_passed_stays_as_it_is(self):
        thing = ["and", TRUE, {"x": [RED_X]}]
        self.refuse(thing)
        self.assertEqual(thing, ["and", TRUE, {"x": [RED_X]}])


class TestBounds(Case):
    def test_tuples_in_all(self):
        for many in range(1, 101):
            saying = of_size(many)
            self.assertEqual(tuples_in(saying), many)
            self.check(saying, "")
        for many in [101, 102, 103, 150, 500]:
            self.assertLess(depth_of(of_size(many)), 20)
            self.refuse(of_size(many))

    def test_free_names_of_the_greatest(self):
        self.check(("and", RED_Y, of_size(98)), "y")
        self.check(("or", of_size(97), ("not", RED_X)), "x")
        self.refuse(("and", RED_Y, of_size(99)))
        self.refuse(("or", of_size(98), ("not", RED_X)))

    def test_tuples_of_each_word(self):
        rows = [("not",), ("each", "x"), ("some", "y"), ("and", TRUE), ("or", TRUE)]
        for row in rows:
            added = len(row) if row[0] in ("and", "or") else 1
            self.check(row + (of_size(99 - added),), "")
            self.check(row + (of_size(100 - added),), "")
            self.refuse(row + (of_size(101 - added),))
        for atom in ATOMS:
            self.assertEqual(free(WEB, ("and", atom, of_size(98))), free(WEB, atom))
            self.refuse(("and", atom, of_size(99)))

    def test_one_tuple_at_several_places_counts_each_time(self):
        part = of_size(49)
        self.check(("and", part, part), "")
        self.check(("not", ("and", part, part)), "")
        self.refuse(("not", ("not", ("and", part, part))))
        third = of_size(33)
        self.refuse(("and", third, ("or", third, third)))
        self.assertEqual(tuples_in(("and", third, ("or", third, third))), 101)
        less = of_size(32)
        self.check(("each", "x", ("and", less, ("or", less, less))), "")
        self.check(nested(5, lambda one: ("and", one, one), TO_XY), "xy")
        self.refuse(nested(6, lambda one: ("and", one, one), TO_XY))
        self.refuse(nested(12, lambda one: ("or", one, one), TRUE))

    def test_deep(self):
        wraps = [lambda one: ("not", one), lambda one: ("each", "x", one), lambda one: ("some", "x", one),
                 lambda one: ("and", one, TRUE), lambda one: ("and", TRUE, one), lambda one: ("or", one, TRUE),
                 lambda one: ("or", TRUE, one), lambda one: ("each", "y", one), lambda one: ("some", "y", one)]
        for wrap in wraps:
            for inmost in ATOMS:
                wanted = tuple(name for name in "xy" if name in told_free(wrap(inmost)))
                for deep in (19, 20):
                    saying = nested(deep - 1, wrap, inmost)
                    self.assertEqual(depth_of(saying), deep)
                    self.check(saying, wanted)
                for deep in (21, 22, 30):
                    self.refuse(nested(deep - 1, wrap, inmost))

    def test_the_deepest_within_counts(self):
        deep = nested(18, lambda one: ("not", one), RED_X)
        self.check(("and", deep, TRUE), "x")
        self.check(("and", TRUE, deep), "x")
        self.check(("and", deep, deep), "x")
        deeper = ("not", deep)
        self.refuse(("and", deeper, TRUE))
        self.refuse(("or", RED_Y, deeper))
        self.refuse(("or", deeper, deeper))

    def test_both_bounds_at_once(self):
        deep = nested(19, lambda one: ("not", one), TRUE)
        self.assertEqual((tuples_in(deep), depth_of(deep)), (20, 20))
        saying = ("and", deep[1], of_size(80))
        self.assertEqual((tuples_in(saying), depth_of(saying)), (100, 20))
        self.check(saying, "")
        self.refuse(("and", deep[1], of_size(81)))
        self.refuse(("and", deep, of_size(79)))
        self.refuse(("and", deep, of_size(5)))


if __name__ == "__main__":
    unittest.main()
