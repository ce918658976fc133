"""[70]."""

import unittest

from anything import ANYTHING, raised
from chances import Chance, some_program
from cuts import check_any_text, check_goes_on, check_right_text, otherwise
from programmodel import Grammar, slow_fault
from test_programs import NO_DEEDS, deep_program, lists_for_tuples
from twinforks.errors import BadProgram, BadText
from twinforks.programs import is_program
from twinforks.programtexts import program_fault, program_goes_on, program_text, read_program

SIGNS = list("abdnopstuxyr019; |()\n") + ["\t", "P", "\u00e9"]
ALL = [("put", 0, "x"), ("take", 1, "y"), ("turn", "x"), ("by", "x", [("stop",)], [], "y"), ("round", "x", [("turn", "y"), ("put", 1, "y")], "y"), ("stop",)]
ALL_TEXT = "put 0 x; take 1 y; turn x; by x (stop | nothing) to y; round x (turn y; put 1 y) y; stop"


class ProgramTextsTest(unittest.TestCase):
    def test_by_name(self):
        self.assertEqual(program_text(program=ALL), ALL_TEXT)
        self.assertEqual(read_program(text=ALL_TEXT), ALL)
        self.assertIsNone(program_fault(text=ALL_TEXT))
        self.assertEqual(program_goes_on(text=ALL_TEXT), ALL_TEXT)

    def test_texts(self):
        for program, text in (([], "nothing"), ([("stop",)], "stop"), ([("by", "y", [], [], "y")], "by y (nothing | nothing) to y"),
                              ([("round", "y", [], "x")], "round y (nothing) x"),
                              ([("by", "x", [("round", "y", [("stop",), ("stop",)], "x")], [("by", "y", [], [("turn", "x")], "x")], "y")],
                               "by x (round y (stop; stop) x | by y (nothing | turn x) to x) to y")):
            self.assertEqual(program_text(program), text)
            self.assertEqual(program_text(lists_for_tuples(program)), text)
            self.assertEqual(read_program(text), program)
            self.assertIsNone(program_fault(text))

    def test_back_and_forth(self):
        for seed in range(150):
            program = some_program(Chance(seed), 4)
            told = read_program(program_text(program))
            self.assertEqual(told, program)
            self.assertTrue(is_program(told))

    def test_depth(self):
        for word in ("round", "by"):
            for depth in (12, 40, 100):
                program = deep_program(depth, word)
                text = program_text(program)
                self.assertEqual(read_program(text), program)
                self.assertEqual(program_fault(text[:-1]), len(text) - 1)
                self.assertIsNone(program_fault(program_goes_on(text[:len(text) // 2])))
        text = "by x (" * 1600
        self.assertEqual(program_fault(text), len(text))
        self.assertIsNone(program_fault(program_goes_on(text)))
        self.assertEqual(program_fault("stop; " * 1600), 9600)

    def test_faults(self):
        for text, at in (("", 0), ("nothing\n", 7), ("nothing;", 7), ("nothing; stop", 7), ("stop\n", 4), ("stop;", 5), ("stop; ", 6), ("stop; nothing", 6),
                         ("stop ;", 4), ("put 2 x", 4), ("put 0 z", 6), ("put x", 4), ("put 0 x ", 7), ("put  0", 4), ("p", 1), ("q", 0), ("t", 1), ("ta", 2), ("tt", 1),
                         ("turn x y", 6), ("by x(", 4), ("by x ()", 6), ("by x (nothing)", 13), ("by x (nothing | nothing)", 24), ("by x (nothing | nothing) x", 25),
                         ("by x (stop; | ", 12), ("by x (nothing | nothing) to z", 28), ("round x (nothing | ", 16), ("round x (nothing) to", 18), ("round x (nothing)", 17),
                         ("round x (stop) x)", 16), ("do a", 0), (" stop", 0), ("Stop", 0), ("by x (stop|", 10), ("stop; do", 6), ("by x (nothing; ", 13)):
            self.assertEqual(program_fault(text), at, text)
            self.assertEqual(raised(BadText, read_program, text).index, at)
            self.assertEqual(slow_fault(Grammar(), text), at, text)

    def test_any_objects(self):
        for thing in ANYTHING:
            if not isinstance(thing, str):
                self.assertEqual(program_fault(thing), -1)
                self.assertIsNone(program_goes_on(thing))
                self.assertEqual(raised(BadText, read_program, thing).index, -1)
            if not is_program(thing):
                self.assertIs(raised(BadProgram, program_text, thing).thing, thing)
        for deed in NO_DEEDS:
            thing = [deed]
            self.assertIs(raised(BadProgram, program_text, thing).thing, thing)

    def test_cut_and_otherwise(self):
        chance = Chance(8)
        grammar = Grammar()
        for text in (ALL_TEXT, "nothing", "round x (nothing) x", "by x (nothing | by y (stop | nothing) to y) to y; turn x"):
            check_right_text(self, program_fault, text)
            for at in range(len(text) + 1):
                check_goes_on(self, program_goes_on, program_fault, text[:at])
                for sign in SIGNS:
                    begun = text[:at] + sign
                    self.assertEqual(program_fault(begun), slow_fault(grammar, begun), begun)
                    check_goes_on(self, program_goes_on, program_fault, begun)
            for other in otherwise(text, chance):
                check_any_text(self, program_fault, other)
                self.assertEqual(program_fault(other), slow_fault(grammar, other), other)

    def test_what_is_told_is_new(self):
        told = read_program("by x (nothing | nothing) to y")
        self.assertEqual((type(told), type(told[0]), type(told[0][2])), (list, tuple, list))
        self.assertIsNot(told[0][2], told[0][3])
        told[0][2].append(("stop",))
        self.assertEqual(read_program("by x (nothing | nothing) to y"), [("by", "x", [], [], "y")])


if __name__ == "__main__":
    unittest.main()
