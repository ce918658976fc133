"""[16]."""

import unittest

from anything import ANYTHING, raised
from chances import Chance, some_endless
from cuts import SIGNS, check_any_text, check_right_text, otherwise
from twinforks.errors import BadEndless, BadForm, BadText
from twinforks.papertexts import (course_fault, course_text, endless_fault, endless_text, read_course, read_endless, read_steps,
                                  steps_fault, steps_text)

GREATEST = 999999999


class EndlessTest(unittest.TestCase):
    def test_by_name(self):
        self.assertEqual(endless_text(endless=([], [0])), "(0)")
        self.assertEqual(read_endless(text="(0)"), ([], [0]))
        self.assertIsNone(endless_fault(text="(0)"))

    def test_as_they_stand(self):
        for endless, text in ((([0, 1], [1, 0]), "01(10)"), (([], [0, 0]), "(00)"), (([0], [0]), "0(0)"), (([1] * 60, [0] * 60), "1" * 60 + "(" + "0" * 60 + ")")):
            self.assertEqual(endless_text(endless), text)
            self.assertEqual(endless_text([tuple(row) for row in endless]), text)
            self.assertEqual(read_endless(text), endless)
        told = read_endless("(1)")
        self.assertIs(type(told), tuple)
        told[0].append(1)
        self.assertEqual(read_endless("(1)"), ([], [1]))

    def test_back_and_forth(self):
        chance = Chance(3)
        for _ in range(100):
            endless = some_endless(chance, 9)
            self.assertEqual(read_endless(endless_text(endless)), endless)

    def test_no_endless_row(self):
        for thing in (([], []), None, "(0)", ([0], [2])):
            self.assertIs(raised(BadEndless, endless_text, thing).thing, thing)

    def test_faults(self):
        for text, at in (("", 0), ("0", 1), ("01(", 3), ("(", 1), ("()", 1), ("(0", 2), ("(0)0", 3), ("(0))", 3), ("(0)\n", 3), ("((", 1), (")", 0), ("2", 0),
                         ("0 ", 1), ("01\n", 2), ("(0 ", 2), ("(0(", 2), ("-", 0), ("\u0661", 0), ("(0)", None), ("1(01)", None)):
            self.assertEqual(endless_fault(text), at, text)
            if at is not None:
                self.assertEqual(raised(BadText, read_endless, text).index, at)

    def test_cut_and_otherwise(self):
        chance = Chance(4)
        for text in ("01(10)", "(1)", "0(011)"):
            check_right_text(self, endless_fault, text)
            for other in otherwise(text, chance):
                check_any_text(self, endless_fault, other)
            for at in range(len(text)):
                for sign in [*SIGNS, *"01()"]:
                    # The way on from any right beginning: a bracket, a figure, a bracket, as far as they lack.
                    begun = text[:at] + sign
                    whole = any(endless_fault(begun + more) is None for more in ("", ")", "0)", "(0)"))
                    self.assertEqual(endless_fault(begun) in (None, at + 1), whole, begun)


class CourseTest(unittest.TestCase):
    def test_by_name(self):
        self.assertEqual(course_text(course=[(0, 1)]), "0 1\n")
        self.assertEqual(read_course(text="0 1\n"), [(0, 1)])
        self.assertIsNone(course_fault(text="0 1\n"))

    def test_texts(self):
        for course, text in (([], ""), ([(0, 1)], "0 1\n"), ([(3, 20), (0, 9), (3, 20)], "3 20\n0 9\n3 20\n"),
                             ([(GREATEST - 1, GREATEST), (0, GREATEST)], "999999998 999999999\n0 999999999\n")):
            self.assertEqual(course_text(course), text)
            self.assertEqual(course_text(tuple(list(pair) for pair in course)), text)
            self.assertEqual(read_course(text), course)
            self.assertTrue(all(type(pair) is tuple for pair in read_course(text)))
        self.assertEqual(course_text([(k, k + 1) for k in range(200)]), "".join(f"{k} {k + 1}\n" for k in range(200)))

    def test_no_course(self):
        for thing in (None, "", "0 1\n", {}, 0, [None], [(0,)], [(0, 1, 2)], [(1, 0)], [(1, 1)], [(-1, 0)], [(0, True)], [(False, 1)],
                      [(0, 1), (0, GREATEST + 1)], [("0", "1")], [(0, 1), [0, None]], [(0, 10 ** 5000)]):
            self.assertIs(raised(BadForm, course_text, thing).thing, thing)
        for thing in ANYTHING:
            try:
                course_text(thing)
            except BadForm as error:
                self.assertIs(error.thing, thing)

    def test_faults(self):
        for text, at in (("0", 1), ("0 ", 2), ("0 1", 3), ("0 0", 2), ("00", 1), ("01", 1), ("0\n", 1), (" ", 0), ("\n", 0), ("5 4", 3), ("5 4\n", 3), ("5 5\n", 3),
                         ("5 50\n6", 6), ("5 01", 2), ("5 0", 2), ("0 1\n\n", 4), ("0 1 ", 3), ("a", 0), ("-1 0", 0), ("+1", 0), ("1_0", 1), ("\u0661", 0),
                         ("999999998", 9), ("999999999", 8), ("9999999980", 9), ("1000000000", 9), ("999999998 8", 10), ("999999998 99999999", 18),
                         ("999999998 999999998", 18), ("999999998 999999999", 19), ("999999998 99999999\n", 18), ("99999999 9", 10), ("99999999 9\n", 10),
                         ("99999999 1", 10), ("99999999 0", 9), ("99999999 100000000\n", None), ("0 1\n", None), ("", None)):
            self.assertEqual(course_fault(text), at, text)
            if at is not None:
                self.assertEqual(raised(BadText, read_course, text).index, at)

    def test_cut_and_otherwise(self):
        for seed, text in enumerate(("0 1\n12 305\n999999998 999999999\n", "9 10\n", "17 20\n17 18\n")):
            check_right_text(self, course_fault, text)
            for other in otherwise(text, Chance(seed)):
                check_any_text(self, course_fault, other)

    def test_against_trying(self):
        for first in ("0", "5", "19", "98", "999999990"):
            for begun in [str(k) for k in range(130)] + ["00", "99999999", "999999989", "999999990", "999999991"]:
                numbers = [begun + more for many in range(4) for more in ("0" * many, "9" * many)] + [begun + "9" * (9 - len(begun))]
                right = [number for number in numbers if str(int(number)) == number and int(first) < int(number) <= GREATEST]
                text = f"{first} {begun}"
                if course_fault(text[:-1]) == len(text) - 1:
                    self.assertEqual(course_fault(text) == len(text), bool(right), text)


class StepsTest(unittest.TestCase):
    STEPS = [("grow", "x", "a"), ("grow", "y", "w12"), ("shrink", 3), ("turn", 20), ("loop",), ("unloop",), ("shrink", 0), ("turn", GREATEST)]
    TEXT = "grow x a\ngrow y w12\nshrink 3\nturn 20\nloop\nunloop\nshrink 0\nturn 999999999\n"

    def test_by_name(self):
        self.assertEqual(steps_text(derivation=[]), "")
        self.assertEqual(read_steps(text="loop\n"), [("loop",)])
        self.assertIsNone(steps_fault(text=""))

    def test_texts(self):
        self.assertEqual(steps_text(self.STEPS), self.TEXT)
        self.assertEqual(steps_text(tuple(list(step) for step in self.STEPS)), self.TEXT)
        self.assertEqual(read_steps(self.TEXT), self.STEPS)
        self.assertTrue(all(type(step) is tuple for step in read_steps(self.TEXT)))
        self.assertEqual(read_steps(""), [])

    def test_no_derivation(self):
        for thing in (None, "", "loop\n", {}, 0):
            self.assertIs(raised(BadForm, steps_text, thing).thing, thing)
        for step in (None, (), "loop", ("loop", 1), ("unloop", "a"), ("shrink",), ("shrink", -1), ("shrink", True), ("shrink", "1"), ("turn", GREATEST + 1),
                     ("turn", 1, 2), ("grow", "x"), ("grow", "stop", "a"), ("grow", "x", "y"), ("grow", "x", 1), ("grow", "x", "a", "b"), ("grows", "x", "a"),
                     (["loop"],), ({},), ("turn", 10 ** 5000), ("grow", ["x"], "a")):
            thing = [("loop",), step]
            self.assertIs(raised(BadForm, steps_text, thing).thing, thing)
        for thing in ANYTHING:
            try:
                steps_text(thing)
            except BadForm as error:
                self.assertIs(error.thing, thing)

    def test_faults(self):
        for text, at in (("g", 1), ("grow", 4), ("grow\n", 4), ("grow ", 5), ("grow z", 5), ("grow x\n", 6), ("grow xx", 6), ("grow x x\n", 8), ("grow x xx", 9),
                         ("grow x abcdefgh", 15), ("grow x abcdefghi", 15), ("grow x 1", 7), ("grow x a b", 8), ("shrink", 6), ("shrink 01", 8), ("shrink -", 7),
                         ("shrink 0 ", 8), ("shrink\n", 6), ("turn 999999999", 14), ("turn 9999999999", 14), ("turn a", 5), ("loop", 4), ("loop ", 4),
                         ("unloop ", 6), ("unloop\n\n", 7), ("z", 0), ("loops", 4), (" ", 0), ("grow x to\n", 9), ("grow  ", 5), ("turn  ", 5), ("turn \n", 5), ("shrink \n", 7)):
            self.assertEqual(steps_fault(text), at, text)
            self.assertEqual(raised(BadText, read_steps, text).index, at)

    def test_cut_and_otherwise(self):
        check_right_text(self, steps_fault, self.TEXT)
        for other in otherwise(self.TEXT, Chance(2)):
            check_any_text(self, steps_fault, other)

    def test_against_trying(self):
        ways_on = ["", "\n", "p\n", "op\n", "oop\n", "loop\n", "nloop\n", "row x a\n", "ow x a\n", "w x a\n", " x a\n", "x a\n", " a\n", "a\n", " 1\n", "1\n",
                   *[word[at:] + " 1\n" for word in ("shrink", "turn") for at in range(7)]]
        text = "grow x w1\nshrink 30\nturn 0\nunloop\nloop\n"
        for at in range(len(text)):
            for sign in [*SIGNS, *"growhkutil0123456789"]:
                begun = text[:at] + sign
                self.assertEqual(steps_fault(begun) in (None, at + 1), any(steps_fault(begun + more) is None for more in ways_on), begun)


class AnyObjectTest(unittest.TestCase):
    def test_faults_of_any_object(self):
        for fault, read in ((endless_fault, read_endless), (course_fault, read_course), (steps_fault, read_steps)):
            for thing in ANYTHING:
                at = fault(thing)
                if not isinstance(thing, str):
                    self.assertEqual(at, -1)
                if at is not None:
                    self.assertEqual(raised(BadText, read, thing).index, at)

    def test_long_texts(self):
        course = [(k, k + 1) for k in range(1000)]
        self.assertEqual(read_course(course_text(course)), course)
        steps = [("grow", "x", "w1"), ("shrink", 12)] * 500
        self.assertEqual(read_steps(steps_text(steps)), steps)
        self.assertEqual(read_endless("0" * 9000 + "(1)"), ([0] * 9000, [1]))


if __name__ == "__main__":
    unittest.main()
