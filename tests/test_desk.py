"""Point 19: the desk."""

import inspect
import unittest

from pairsayings.counting import count
from pairsayings.desk import Desk
from pairsayings.errors import HasFunctions, NoLine, NoName, NoThings, NotClosed
from pairsayings.texts import saying_text
from tests.cases import Case
from tests.listed import BOTH, Sayings, load, places
from tests.things import TRUE, nested, odd_objects, of_size

ALL_LINES = ["tongue p r -", "let a some x p(x)", "count a 3", "chance a a 3", "sizes a", "same a a", "show a", "names"]


class DeskCase(Case):
    def setUp(self):
        self.desk = Desk()

    def run_lines(self, *rows):
        """Check what the desk answers to lines; each line that only asks is run twice."""
        for line, answer in rows:
            found = self.desk.run(line)
            self.assertEqual(found, answer, line)
            self.assertIs(type(found), str)
            self.assertEqual(self.desk.run(line=line), answer)

    def seen(self):
        """What can be seen of the desk: the names, and what they name."""
        names = self.desk.run("names")
        return names, [] if names == "-" else [self.desk.run("show " + name) for name in names.split(" ")]

    def refuse_line(self, error, line, **fields):
        """Check that the line raises the error and changes nothing."""
        before = self.seen()
        self.refuse(error, self.desk.run, line)
        self.assertEqual(self.seen(), before)
        if error is NoName:
            with self.assertRaises(NoName) as caught:
                self.desk.run(line)
            self.assertEqual(vars(caught.exception), fields)


class TestLines(DeskCase):
    def test_the_interface(self):
        self.assertEqual((Desk.__module__, Desk.__bases__), ("pairsayings.desk", (object,)))
        self.assertEqual(list(inspect.signature(Desk).parameters), [])
        self.assertIn("run", vars(Desk))
        self.assertEqual(list(inspect.signature(Desk.run).parameters), ["self", "line"])

    def test_at_first(self):
        self.run_lines(("names", "-"), ("let a each x each y x=y", "ok"), ("names", "a"), ("count a 1", "1"),
                       ("count a 2", "0"), ("sizes a", "few 1"))
        self.refuse_line(NoLine, "let b some x p(x)")

    def test_tongues(self):
        rows = [("tongue - - -", "let a each x x=x"), ("tongue p - -", "let a some x p(x)"),
                ("tongue p,q,o - -", "let a some x (p(x) and (q(x) or o(x)))"), ("tongue - r -", "let a some x r(x,x)"),
                ("tongue p,q,o r,s r", "let a some x (r(x,x) or s(x,x))"), ("tongue - r,s s", "let a true"),
                ("tongue abcdef zzzzzz zzzzzz", "let a each y (abcdef(y) and zzzzzz(y,y))")]
        for line, let in rows:
            self.run_lines((line, "ok"), (let, "ok"), ("show a", let[6:]), ("names", "a"))

    def test_a_new_tongue_forgets_the_sayings(self):
        self.run_lines(("tongue p - -", "ok"), ("let a some x p(x)", "ok"), ("let b true", "ok"), ("names", "a b"),
                       ("tongue p - -", "ok"), ("names", "-"))
        self.refuse_line(NoName, "show a", name="a")
        self.run_lines(("let b true", "ok"), ("names", "b"))

    def test_let_and_show(self):
        made = Sayings(BOTH, 95)
        self.run_lines(("tongue p r -", "ok"))
        for _ in range(40):
            text = saying_text(BOTH, made.any(4))
            self.run_lines(("let a " + text, "ok"), ("show a", text))
        great = saying_text(BOTH, nested(19, lambda one: ("not", one), TRUE))
        self.run_lines(("let a " + great, "ok"), ("show a", great))
        great = saying_text(BOTH, of_size(100))
        self.run_lines(("let a " + great, "ok"), ("show a", great))

    def test_names(self):
        words = ["x", "y", "true", "not", "and", "or", "each", "some", "names", "let", "p", "r", "abcdef", "a", "z"]
        self.run_lines(("tongue p r -", "ok"))
        for at, word in enumerate(words):
            self.run_lines((f"let {word} each x p(x)", "ok"), ("names", " ".join(sorted(words[:at + 1]))))
        self.run_lines(("count x 2", "16"), ("chance not and 2", "1/1"), ("same or each", "yes"),
                       ("show some", "each x p(x)"))

    def test_a_name_once_more(self):
        self.run_lines(("let a true", "ok"), ("let b not true", "ok"), ("let a not true", "ok"), ("show a", "not true"),
                       ("names", "a b"), ("same a b", "yes"))

    def test_count(self):
        self.run_lines(("tongue - r -", "ok"), ("let a each x some y r(x,y)", "ok"), ("let n not true", "ok"),
                       ("count a 2", "9"), ("count a 3", "343"), ("count a 30", str((2 ** 30 - 1) ** 30)),
                       ("count n 60", "0"), ("let t true", "ok"), ("count t 60", str(2 ** 3600)))
        made = Sayings(BOTH, 96)
        self.run_lines(("tongue p r -", "ok"))
        for _ in range(20):
            saying = made.closed(3)
            if load(BOTH, saying) <= 4 and places(saying)[1] <= 6:
                self.run_lines(("let a " + saying_text(BOTH, saying), "ok"), ("count a 5", str(count(BOTH, saying, 5))))

    def test_count_with_a_function(self):
        self.run_lines(("tongue - f f", "ok"), ("let on each x some y f(y,x)", "ok"), ("count on 4", "24"),
                       ("let all true", "ok"), ("count all 10", str(10 ** 10)), ("chance on all 3", "2/9"))

    def test_chance(self):
        self.run_lines(("tongue p - -", "ok"), ("let some some x p(x)", "ok"), ("let all each x p(x)", "ok"),
                       ("let none not true", "ok"), ("let true true", "ok"), ("chance some true 3", "7/8"),
                       ("chance all some 3", "1/7"), ("chance none true 60", "0/1"), ("chance some all 9", "1/1"),
                       ("chance some none 3", "none"), ("chance none none 3", "none"),
                       ("chance all true 60", f"1/{2 ** 60}"))

    def test_sizes(self):
        self.run_lines(("tongue p,q - -", "ok"), ("let no (some x p(x) and each x not p(x))", "ok"),
                       ("sizes no", "none"),
                       ("let one some x each y x=y", "ok"), ("sizes one", "few 1"),
                       ("let few each x each y (((p(x) and not p(y)) or (p(y) and not p(x))) or x=y)", "ok"),
                       ("sizes few", "few 1 2"), ("let two some x some y not x=y", "ok"))
        word, size = self.desk.run("sizes two").split(" ")
        self.assertEqual((word, str(int(size))), ("from", size))
        for things in range(int(size), int(size) + 4):
            self.assertNotEqual(self.desk.run(f"count two {things}"), "0")

    def test_same(self):
        self.run_lines(("tongue p r -", "ok"), ("let a each x some y r(x,y)", "ok"),
                       ("let b not some x each y not r(x,y)", "ok"),
                       ("let c each x some y r(y,x)", "ok"), ("same a b", "yes"), ("same b a", "yes"),
                       ("same a c", "no"),
                       ("same c b", "no"), ("same c c", "yes"), ("let d true", "ok"), ("same d a", "no"))

    def test_two_desks(self):
        other = Desk()
        self.run_lines(("tongue p - -", "ok"), ("let a each x p(x)", "ok"))
        self.assertEqual(other.run("names"), "-")
        self.refuse(NoLine, other.run, "let a each x p(x)")


class TestWrittenOtherwise(DeskCase):
    def setUp(self):
        self.desk = Desk()
        self.run_lines(("tongue p r -", "ok"), ("let a some x p(x)", "ok"), ("let b each x some y r(x,y)", "ok"))

    def test_blanks(self):
        for line in ALL_LINES:
            wrong = [" " + line, line + " ", "\t" + line, line + "\n", "\n" + line, line.upper(), line.title(),
                     line + "\t"]
            wrong += [line[:at] + " " + line[at:] for at, sign in enumerate(line) if sign == " "]
            wrong += [line.replace(" ", "\t"), line.replace(" ", ""), line.replace(" ", "_")] if " " in line else []
            for one in wrong:
                self.refuse_line(NoLine, one)

    def test_words_too_many_or_too_few(self):
        for line in ALL_LINES:
            words = line.split(" ")
            self.refuse_line(NoLine, line + " a")
            self.refuse_line(NoLine, line + " -")
            for many in range(1, len(words)):
                self.refuse_line(NoLine, " ".join(words[:many]))
        for line in ["", " ", "a", "ok", "-", "x", "true", "tongues p r -", "lets a true", "names names", "names -",
                     "show",
                     "help", "count", "count a", "count 3", "chance a 3", "chance a a", "chance 3", "same a", "same",
                     "same a a a", "sizes", "let a", "let", "let true", "tongue", "tongue p", "tongue p r"]:
            self.refuse_line(NoLine, line)

    def test_names(self):
        for name in ["", "abcdefg", "A", "aB", "a1", "1", "a_b", "a-b", "-", "a,b", "aaaaaaaaaa", "(a)", "a.", "a b"]:
            for line in [f"let {name} true", f"count {name} 3", f"chance {name} a 3", f"chance a {name} 3",
                         f"sizes {name}",
                         f"same {name} a", f"same a {name}", f"show {name}"]:
                self.refuse_line(NoLine, line)

    def test_things(self):
        for things in ["0", "01", "00", "007", "0000001", "1000000", "1234567", "-1", "+1", "1.0", "1e1", "one", "",
                       "x", "3a",
                       "a3", "1,0", "1_0", "0x1", " 1", "true"]:
            self.refuse_line(NoLine, "count a " + things)
            self.refuse_line(NoLine, "chance a a " + things)
        for things in ["61", "100", "999999", "100000"]:
            self.refuse_line(NoThings, "count a " + things)
            self.refuse_line(NoThings, "chance a a " + things)
        self.run_lines(("count a 1", str(2)), ("chance a a 60", "1/1"))

    def test_tongues(self):
        wrong = ["p,p - -", "p p -", "- r,r -", "- r,s,t -", "p,q,o,n - -", "- r p", "p r p", "- r,s r,s", "- - r",
                 "- r s",
                 "x - -", "y - -", "true - -", "- not -", "- and -", "or - -", "- each -", "some - -", "P - -",
                 "p1 - -",
                 "abcdefg - -", ", - -", "p, - -", ",p - -", "- r, -", "- r r,", "p,,q - -", "-,p - -", "p,- - -",
                 "-- - -",
                 "- - --", "p;q - -", "p - - -", "(p) - -", "- - r r", "p r", "- -"]
        for words in wrong:
            self.refuse_line(NoLine, "tongue " + words)
        self.run_lines(("show b", "each x some y r(x,y)"), ("count b 2", "36"))

    def test_formulas(self):
        wrong = ["", "false", "p(x) ", " p(x)", "p(z)", "q(x)", "r(x)", "p(x,y)", "s(x,y)", "some  x p(x)", "some x",
                 "x = y",
                 "some z p(x)", "(p(x) and p(y)", "p(x) and p(y)", "not(p(x))", "not  p(x)", "True", "each x each y",
                 "a",
                 "(p(x) or p(y)) ", "x", "((p(x)))", "some x p(x) 3",
                 saying_text(BOTH, nested(19, lambda one: ("not", one), TRUE)) + "x",
                 "not " * 20 + "true"]
        for text in wrong:
            self.refuse_line(NoLine, "let a " + text)
            self.refuse_line(NoLine, "let c " + text)
        # More than a hundred tuples.
        text = "true"
        for _ in range(6):
            text = f"({text} or {text})"
        self.refuse_line(NoLine, "let a " + text)

    def test_a_formula_of_another_tongue(self):
        self.run_lines(("tongue q s -", "ok"))
        for text in ["some x p(x)", "each x some y r(x,y)", "s(x)", "q(x,y)"]:
            self.refuse_line(NoLine, "let a " + text)
        self.run_lines(("let a q(x)", "ok"), ("let b s(x,y)", "ok"))

    def test_other_things_than_strings(self):
        for at, thing in enumerate(odd_objects() + [b"names", ["names"], ("names",), {"names": 1}]):
            with self.subTest(at=at):
                self.refuse_line(NoLine, thing)


class TestErrors(DeskCase):
    def setUp(self):
        self.desk = Desk()
        self.run_lines(("tongue p r -", "ok"), ("let a some x p(x)", "ok"), ("let open p(x)", "ok"))

    def test_names_that_are_not_kept(self):
        for line in ["count b 3", "chance b a 3", "chance a b 3", "chance b c 3", "chance b b 3", "sizes b", "same b a",
                     "same a b", "same b c", "show b"]:
            self.refuse_line(NoName, line, name="b")
        self.refuse_line(NoName, "same true b", name="true")
        self.refuse_line(NoName, "chance zzzzzz b 999999", name="zzzzzz")

    def test_the_order_of_errors(self):
        for line in ["count b 0", "chance b c 07", "same b C", "chance b a 1000000", "show b ", "sizes  b"]:
            self.refuse_line(NoLine, line)
        # What is asked for counts behind the names.
        self.refuse_line(NoName, "count b 61", name="b")
        self.refuse_line(NoName, "chance open b 61", name="b")
        self.refuse_line(NoName, "same open b", name="b")
        self.refuse_line(NotClosed, "count open 61")
        self.refuse_line(NotClosed, "chance a open 61")
        self.refuse_line(NotClosed, "chance open a 61")
        self.refuse_line(NoThings, "chance a a 61")

    def test_open_sayings(self):
        for line in ["count open 3", "chance open a 3", "chance a open 3", "sizes open", "same open a", "same a open",
                     "same open open"]:
            self.refuse_line(NotClosed, line)
        self.run_lines(("show open", "p(x)"), ("names", "a open"))

    def test_a_function(self):
        self.run_lines(("tongue p f f", "ok"), ("let a some x p(x)", "ok"), ("let b f(x,y)", "ok"))
        for line in ["sizes a", "same a a", "sizes b", "same a b", "same b b"]:
            self.refuse_line(HasFunctions, line)
        self.refuse_line(NoName, "sizes c", name="c")
        self.refuse_line(NoName, "same b c", name="c")
        self.run_lines(("count a 2", "12"), ("chance a a 2", "1/1"), ("show b", "f(x,y)"))


if __name__ == "__main__":
    unittest.main()
