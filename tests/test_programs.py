"""[69], and what [72] says of back_program."""

import unittest

from anything import ANYTHING, raised
from chances import Chance, some_program
from twinforks.errors import BadProgram
from twinforks.programs import back_program, deeds_in, is_program, rounds_in

PROGRAM = [("put", 0, "x"), ("by", "x", [("turn", "y"), ("stop",)], [("round", "y", [("take", 1, "x")], "x")], "y"), ("round", "x", [], "y")]
NO_DEEDS = [None, 3, "stop", [], (), ("put",), ("put", 0), ("put", 2, "x"), ("put", True, "x"), ("put", 0, "z"), ("put", "x", 0), ("put", 0, "x", "x"),
            ("take", -1, "x"), ("take", 0, ["x"]), ("turn",), ("turn", "z"), ("turn", "x", "y"), ("turn", 0), ("stop", "x"), ("do", "a"), ("go", "x"), ("go",),
            ("by", "x", [], [], "z"), ("by", "z", [], [], "x"), ("by", "x", [], "y"), ("by", "x", [], None, "y"), ("by", "x", ("stop",), [], "y"),
            ("by", "x", [], [("put", 0)], "y"), ("round", "x", [], "z"), ("round", "x", None, "y"), ("round", "x", [("stop", 1)], "y"),
            ("round", "x", [], [], "y"), ["stop", "stop"], (["stop"],), {"stop": 1}, ("put", 0, None), ("stop", [])]


def deep_program(depth, word):
    program = [("turn", "x")]
    for _ in range(depth):
        program = [(word, "x", program, "y")] if word == "round" else [(word, "x", [], program, "y")]
    return program


def count(program, words):
    total = 0
    for deed in program:
        inner = deed[2:4] if deed[0] == "by" else deed[2:3] if deed[0] == "round" else ()
        total += (deed[0] in words) + sum(count(one, words) for one in inner)
    return total


def back(program):
    """The back program by the words of [72]."""
    told = []
    for deed in program[::-1]:
        if deed[0] == "put":
            told.append(("take", *deed[1:]))
        elif deed[0] == "take":
            told.append(("put", *deed[1:]))
        elif deed[0] == "by":
            told.append(("by", deed[4], back(deed[2]), back(deed[3]), deed[1]))
        elif deed[0] == "round":
            told.append(("round", deed[3], back(deed[2]), deed[1]))
        else:
            told.append(deed)
    return told


def lists_for_tuples(thing):
    return [lists_for_tuples(part) for part in thing] if isinstance(thing, (list, tuple)) else thing


def tuples_for_lists(thing):
    return tuple(tuples_for_lists(part) for part in thing) if isinstance(thing, (list, tuple)) else thing


class ProgramsTest(unittest.TestCase):
    def test_is_program(self):
        self.assertIs(is_program(thing=PROGRAM), True)
        for deed in (("put", 0, "x"), ("put", 1, "y"), ("take", 0, "y"), ("turn", "x"), ("stop",), ("by", "x", [], [], "x"), ("round", "y", [], "y")):
            self.assertTrue(is_program([deed]))
            self.assertTrue(is_program((list(deed), deed)))
        self.assertTrue(is_program([]))
        self.assertTrue(is_program(()))

    def test_what_is_none(self):
        for deed in NO_DEEDS:
            self.assertIs(is_program([deed]), False, deed)
            self.assertFalse(is_program([("stop",), deed]))
            self.assertFalse(is_program([("by", "x", [], [("turn", "y"), deed], "y")]))
            self.assertFalse(is_program([("by", "x", [deed], [], "y")]))
            self.assertFalse(is_program([("round", "x", [("round", "y", [deed], "y")], "y")]))
        for thing in ANYTHING:
            self.assertIs(is_program(thing), thing in ([], ()))
        self.assertFalse(is_program(("stop",)))
        self.assertFalse(is_program({}))

    def test_depth(self):
        for word in ("round", "by"):
            for depth in (12, 13, 40, 100):
                program = deep_program(depth, word)
                self.assertTrue(is_program(program))
                self.assertEqual(deeds_in(program), depth + 1)
                self.assertEqual(rounds_in(program), depth if word == "round" else 0)
                self.assertEqual(back_program(back_program(program)), program)
            self.assertFalse(is_program(deep_program(3, word) + [("by", "x", [], deep_program(12, word) + [None], "y")]))

    def test_counts(self):
        self.assertEqual((deeds_in(program=PROGRAM), rounds_in(program=PROGRAM)), (7, 2))
        self.assertEqual((deeds_in([]), rounds_in([])), (0, 0))
        self.assertEqual((deeds_in([("stop",)] * 400), rounds_in([("round", "x", [], "x")] * 400)), (400, 400))
        # The very same program in two places counts twice.
        inner = [("turn", "x"), ("round", "x", [], "x")]
        self.assertEqual((deeds_in([("by", "x", inner, inner, "x")]), rounds_in([("by", "x", inner, inner, "x")])), (5, 2))

    def test_back_program(self):
        self.assertEqual(back_program(program=PROGRAM), [
            ("round", "y", [], "x"), ("by", "y", [("stop",), ("turn", "y")], [("round", "x", [("put", 1, "x")], "y")], "x"), ("take", 0, "x")])
        self.assertEqual(back_program([]), [])
        self.assertEqual(back_program([("put", 1, "y"), ("take", 0, "x"), ("turn", "y"), ("stop",)]),
                         [("stop",), ("turn", "y"), ("put", 0, "x"), ("take", 1, "y")])

    def test_by_chance(self):
        for seed in range(150):
            program = some_program(Chance(seed), 4)
            self.assertTrue(is_program(program))
            self.assertEqual(deeds_in(program), count(program, ("put", "take", "turn", "stop", "by", "round")))
            self.assertEqual(rounds_in(program), count(program, ("round",)))
            self.assertEqual(back_program(program), back(program))
            self.assertEqual(back_program(back_program(program)), program)
            for other in (lists_for_tuples(program), tuples_for_lists(program)):
                self.assertTrue(is_program(other))
                self.assertEqual((deeds_in(other), rounds_in(other), back_program(other)), (deeds_in(program), rounds_in(program), back_program(program)))

    def test_what_is_told_is_new(self):
        inner = [("stop",)]
        program = [("by", "x", inner, inner, "x")]
        told = back_program(program)
        self.assertIsNot(told[0][2], told[0][3])
        told[0][2].append(("turn", "x"))
        self.assertEqual((program, told[0][3]), ([("by", "x", [("stop",)], [("stop",)], "x")], [("stop",)]))
        self.assertIs(type(told[0]), tuple)

    def test_errors(self):
        for thing in [*ANYTHING, *[[deed] for deed in NO_DEEDS]]:
            if thing not in ([], ()):
                for work in (deeds_in, rounds_in, back_program):
                    self.assertIs(raised(BadProgram, work, thing).thing, thing)


if __name__ == "__main__":
    unittest.main()
