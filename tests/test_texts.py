"""Point 6: the texts of sayings, and sayings read from them."""

import inspect
import re
import unittest

from pairsayings.errors import NoSaying, NoText, SayingError
from pairsayings.texts import read_saying, saying_text
from pairsayings.tongues import Tongue
from tests.cases import Case
from tests.listed import LISTED, Sayings
from tests.things import TRUE, depth_of, nested, odd_objects, of_size, tuples_in

WEB = Tongue(("red",), ("to",), ())
RED_X = ("mark", "red", "x")
TO_XY = ("tie", "to", "x", "y")
# Names that begin with, end with or hold a word of the language, or the names of things.
ODD = Tongue(("notx", "eachx", "trues"), ("andy", "somey"), ("andy",))
MORE = Tongue(("xy", "yx", "xx"), ("orx", "tru"), ())
WORDS = Tongue(("mark", "same", "ors"), ("tie", "no"), ())
ROWS = [
    (WEB, TRUE, "true"),
    (WEB, RED_X, "red(x)"),
    (WEB, ("mark", "red", "y"), "red(y)"),
    (WEB, TO_XY, "to(x,y)"),
    (WEB, ("tie", "to", "y", "x"), "to(y,x)"),
    (WEB, ("tie", "to", "x", "x"), "to(x,x)"),
    (WEB, ("tie", "to", "y", "y"), "to(y,y)"),
    (WEB, ("same", "x", "y"), "x=y"),
    (WEB, ("same", "y", "x"), "y=x"),
    (WEB, ("same", "x", "x"), "x=x"),
    (WEB, ("same", "y", "y"), "y=y"),
    (WEB, ("not", TRUE), "not true"),
    (WEB, ("not", ("not", RED_X)), "not not red(x)"),
    (WEB, ("and", TRUE, RED_X), "(true and red(x))"),
    (WEB, ("or", RED_X, TRUE), "(red(x) or true)"),
    (WEB, ("not", ("and", TRUE, TRUE)), "not (true and true)"),
    (WEB, ("and", ("not", TRUE), TRUE), "(not true and true)"),
    (WEB, ("or", ("and", TRUE, TRUE), ("or", TRUE, TRUE)), "((true and true) or (true or true))"),
    (WEB, ("each", "x", RED_X), "each x red(x)"),
    (WEB, ("some", "y", TO_XY), "some y to(x,y)"),
    (WEB, ("some", "x", ("each", "y", ("same", "x", "y"))), "some x each y x=y"),
    (WEB, ("each", "y", ("or", ("not", TO_XY), ("same", "y", "x"))), "each y (not to(x,y) or y=x)"),
    (WEB, ("and", ("each", "x", RED_X), RED_X), "(each x red(x) and red(x))"),
    (WEB, ("each", "x", ("and", RED_X, RED_X)), "each x (red(x) and red(x))"),
    (ODD, ("not", ("mark", "notx", "x")), "not notx(x)"),
    (ODD, ("each", "x", ("mark", "eachx", "x")), "each x eachx(x)"),
    (ODD, ("and", ("mark", "trues", "y"), ("tie", "andy", "x", "y")), "(trues(y) and andy(x,y))"),
    (ODD, ("some", "y", ("tie", "somey", "y", "x")), "some y somey(y,x)"),
    (MORE, ("or", ("mark", "xy", "x"), ("mark", "yx", "y")), "(xy(x) or yx(y))"),
    (MORE, ("each", "x", ("mark", "xx", "x")), "each x xx(x)"),
    (MORE, ("or", ("tie", "orx", "x", "y"), ("tie", "tru", "x", "y")), "(orx(x,y) or tru(x,y))"),
    (WORDS, ("and", ("mark", "mark", "x"), ("mark", "same", "y")), "(mark(x) and same(y))"),
    (WORDS, ("or", ("tie", "tie", "x", "y"), ("mark", "ors", "y")), "(tie(x,y) or ors(y))"),
    (WORDS, ("not", ("tie", "no", "y", "y")), "not no(y,y)"),
]
# The signs that texts are made of, and some that they are not.
SIGNS = " ()=,xyrtoedansm\n\t.\"'_-0ARZX%`{["


def is_text(tongue, text):
    """Tell whether it is a text, by putting # for the texts of inmost sayings until nothing else is left."""
    atoms = ["true", "[xy]=[xy]"]
    atoms += [name + r"\([xy]\)" for name in tongue.marks] + [name + r"\([xy],[xy]\)" for name in tongue.ties]
    left = None if "#" in text else re.sub("(?<![a-z])(" + "|".join(atoms) + ")(?![a-z=(])", "#", text)
    before = None
    while left != before:
        before = left
        left = re.sub(r"\(# (and|or) #\)|(not|(each|some) [xy]) #", "#", left)
    return left == "#"


class TestTexts(Case):
    def check(self, tongue, saying, text):
        """Check that the text is that of the saying, and is read so."""
        self.assertEqual(self.tell(saying_text, tongue, saying), text)
        self.assertEqual(self.tell(read_saying, tongue, text), saying)

    def test_the_interface(self):
        for function, names in ((saying_text, ["tongue", "saying"]), (read_saying, ["tongue", "text"])):
            self.assertEqual(function.__module__, "pairsayings.texts")
            self.assertEqual(list(inspect.signature(function).parameters), names)

    def test_each_kind(self):
        for tongue, saying, text in ROWS:
            with self.subTest(text=text):
                self.check(tongue, saying, text)
                self.assertTrue(is_text(tongue, text))

    def test_what_is_read_is_made_of_tuples(self):
        def all_tuples(saying):
            return type(saying) is tuple and all(type(one) is str or all_tuples(one) for one in saying)
        for tongue, _, text in ROWS:
            self.assertTrue(all_tuples(read_saying(tongue, text)))

    def test_there_and_back(self):
        for tongue, _ in LISTED + [(ODD, 0), (MORE, 0), (WORDS, 0)]:
            made = Sayings(tongue, 3)
            found = {}
            for _ in range(300):
                saying = made.any(5)
                text = saying_text(tongue, saying)
                self.assertEqual(read_saying(tongue, text), saying)
                self.assertEqual(found.setdefault(text, saying), saying)

    def test_100_tuples(self):
        for many in (1, 2, 3, 50, 99, 100):
            saying = of_size(many)
            self.assertEqual(tuples_in(saying), many)
            self.assertEqual(read_saying(WEB, saying_text(WEB, saying)), saying)

    def test_20_deep(self):
        wraps = [(lambda one: ("not", one), "not ", ""), (lambda one: ("each", "x", one), "each x ", ""),
                 (lambda one: ("and", one, TRUE), "(", " and true)"), (lambda one: ("or", TRUE, one), "(true or ", ")")]
        for wrap, ahead, behind in wraps:
            for deep in (19, 20):
                saying = nested(deep - 1, wrap, RED_X)
                self.assertEqual(depth_of(saying), deep)
                self.check(WEB, saying, ahead * (deep - 1) + "red(x)" + behind * (deep - 1))
            for deep in (21, 22, 40, 500, 5000):
                self.refuse(NoText, read_saying, WEB, ahead * (deep - 1) + "red(x)" + behind * (deep - 1))
            self.refuse(NoText, read_saying, WEB, ahead * 5000)

    def test_no_saying(self):
        wrong = [("mark", "to", "x"), ["true"], ("not", "true"), (), of_size(101),
                 nested(20, lambda one: ("not", one), TRUE)]
        for at, thing in enumerate(odd_objects() + wrong + ["true", "red(x)", None]):
            with self.subTest(at=at):
                self.refuse(NoSaying, saying_text, WEB, thing)


class TestNoText(Case):
    def refuse_text(self, text, tongue=WEB):
        self.refuse(NoText, read_saying, tongue, text)

    def test_other_things_than_strings(self):
        wrong = [one for one in odd_objects() if not (isinstance(one, str) and one == "true")]
        for at, thing in enumerate(wrong + [TRUE, ["true"], b"true", bytearray(b"true"), None, 0, True, RED_X]):
            with self.subTest(at=at):
                self.refuse_text(thing)

    def test_one_sign_put_in_left_out_doubled_or_exchanged(self):
        for tongue, _, text in ROWS:
            for at in range(len(text) + 1):
                for sign in SIGNS:
                    self.look_at(tongue, text[:at] + sign + text[at:])
                    self.look_at(tongue, text[:at] + sign + text[at + 1:])
                self.look_at(tongue, text[:at] + text[at + 1:])
                self.look_at(tongue, text[:at] + text[at:at + 1] * 2 + text[at + 1:])
                self.look_at(tongue, text[:at])
                self.look_at(tongue, text[at:])

    def look_at(self, tongue, text):
        """Check that it is read if, and only if, it is a text, and that it is the text of what is read."""
        if is_text(tongue, text):
            self.assertEqual(saying_text(tongue, read_saying(tongue, text)), text)
        else:
            with self.assertRaises(NoText, msg=text):
                read_saying(tongue, text)

    def test_blanks(self):
        for text in [" true", "true ", "not  true", "nottrue", "not true ", "not\ttrue", "not\ntrue", "true\n",
                     "(true  and true)", "(true and  true)", "( true and true)", "(true and true )", "(trueand true)",
                     "(true andtrue)", "each  x true", "each x  true", "eachx true", "each xtrue", "some ytrue",
                     "to(x, y)", "to(x ,y)", "to( x,y)", "to (x,y)", "red (x)", "red( x)", "red(x )", "x =y", "x= y",
                     "x = y", " ", "  ", "", "\n"]:
            self.refuse_text(text)

    def test_parentheses(self):
        for text in ["(true)", "((true and true))", "(true and true", "true and true)", "true and true", "(not true)",
                     "not(true)", "not (true)", "((true and true) or true", "(true and true))", "(each x true)",
                     "each x (red(x))", "(x=y)", "(red(x))", "red(x", "redx)", "red x", "red[x]", "to(x,y", "to x,y",
                     "to((x,y))", "(true and true or true)", "(true and true and true)", "()", "(", ")",
                     "(true)and(true)"]:
            self.refuse_text(text)

    def test_words(self):
        for text in ["True", "TRUE", "false", "nottrue", "(true And true)", "(true & true)", "(true xor true)",
                     "(true not true)", "(true true)", "(true and)", "(and true)", "not", "not ", "each", "each ",
                     "each x",
                     "each x ", "each z true", "each red true", "each true", "some xy true", "some x, true",
                     "all x true",
                     "Each x true", "each x: true", "x", "y", "x=", "=y", "x==y", "x=z", "z=x", "x!=y", "x=x=y",
                     "x=true",
                     "red=x", "true=true", "true true", "truetrue", "true(x)", "not(x)", "and(x)", "each(x)",
                     "some(x,y)",
                     "x(x)", "y(x,y)"]:
            self.refuse_text(text)

    def test_names_of_things(self):
        for text in ["red(z)", "red(X)", "red()", "red(xy)", "red(x,y)", "red(x,)", "red(,x)", "red(0)", "red(red)",
                     "to(x)",
                     "to(x,)", "to(,y)", "to(x,z)", "to(x,y,x)", "to(xy)", "to(x;y)", "to()", "to(x,to)", "red(true)"]:
            self.refuse_text(text)

    def test_names_of_another_tongue(self):
        for text in ["blue(x)", "from(x,y)", "re(x)", "redd(x)", "t(x,y)", "too(x,y)", "Red(x)", "redto(x)", "mark(x)"]:
            self.refuse_text(text)
        self.refuse_text("red(x)", Tongue((), ("red",), ()))
        self.refuse_text("to(x,y)", Tongue(("to",), (), ()))
        self.refuse_text("red(x)", Tongue((), (), ()))
        self.assertEqual(read_saying(Tongue((), (), ()), "x=x"), ("same", "x", "x"))

    def test_marks_as_ties_and_the_other_way_about(self):
        for text in ["red(x,y)", "to(x)", "not red(x,y)", "(to(y) and true)"]:
            self.refuse_text(text)

    def test_names_that_begin_with_a_word(self):
        for text in ["not x(x)", "notx", "notx x", "notx true", "eachx true", "eachx(y,x)", "trues", "trues true",
                     "true(y)",
                     "andy(x)", "(true andy(x,y))", "somey true", "somey(x)", "each xeachx(x)", "notnotx(x)",
                     "not nottx(x)"]:
            self.refuse_text(text, ODD)
        for text in ["xy=x", "x=xy", "xx=x", "xy", "xy(xy)", "(true orx true)", "(true orx(x,y))", "tru", "tru(x)"]:
            self.refuse_text(text, MORE)

    def test_101_tuples(self):
        def text_of(many):
            if many == 1:
                return "true"
            if many == 2:
                return "not true"
            left = (many - 1) // 2
            return "(" + text_of(left) + " and " + text_of(many - 1 - left) + ")"
        self.assertEqual(read_saying(WEB, text_of(100)), of_size(100))
        for many in (101, 102, 150, 1000):
            self.refuse_text(text_of(many))

    def test_long_strings(self):
        for text in ["a" * 100000, "(" * 100000, "x" * 100000, "not " * 100000, " " * 100000, "true" + " " * 100000,
                     "(true and " * 100000, "red(x)" * 100000]:
            self.refuse_text(text)

    def test_it_is_an_error_of_the_package(self):
        with self.assertRaises(SayingError):
            read_saying(WEB, "")
        with self.assertRaises(ValueError):
            read_saying(WEB, None)


if __name__ == "__main__":
    unittest.main()
