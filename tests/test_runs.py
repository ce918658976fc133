"""[72]."""

import unittest

from anything import ANYTHING, raised
from chances import Chance, some_endless, some_program
from programmodel import slow_run
from test_programs import NO_DEEDS, deep_program, lists_for_tuples
from twinforks.errors import BadEndless, BadMost, BadProgram
from twinforks.programs import back_program
from twinforks.runs import run

ZEROS = ([], [0])
ONES = ([], [1])


class RunsTest(unittest.TestCase):
    def test_by_name(self):
        self.assertEqual(run(most=3, y=ZEROS, x=ONES, program=[("put", 0, "x")]), ("out", ([0], [1]), ZEROS, 1))

    def test_deeds(self):
        for program, told in (
                ([], ("out", ([1], [0]), ONES, 0)), ([("put", 1, "y")], ("out", ([1], [0]), ONES, 1)), ([("put", 0, "y")], ("out", ([1], [0]), ([0], [1]), 1)),
                ([("take", 1, "x")], ("out", ZEROS, ONES, 1)), ([("take", 0, "x")], ("stopped", 1)), ([("turn", "x")], ("out", ZEROS, ONES, 2)),
                ([("turn", "y"), ("turn", "y")], ("out", ([1], [0]), ONES, 4)), ([("stop",)], ("stopped", 0)), ([("put", 0, "x"), ("stop",), ("put", 0, "x")], ("stopped", 1)),
                ([("by", "x", [("stop",)], [("turn", "x")], "y")], ("out", ([1], [0]), ONES, 4)),
                ([("by", "y", [("stop",)], [("put", 0, "y")], "x")], ("out", ([1, 1], [0]), ([0], [1]), 3)),
                ([("by", "x", [("stop",)], [("take", 0, "y")], "x")], ("stopped", 2)),
                ([("round", "x", [], "x")], ("out", ([1], [0]), ONES, 2)),
                ([("round", "y", [], "x")], ("out", ZEROS, ([1, 0], [1]), 4)),
                ([("round", "x", [("take", 0, "x"), ("put", 1, "x"), ("put", 0, "y")], "y")], ("out", ([1, 1], [0]), ONES, 5)),
                ([("round", "x", [("round", "y", [], "x")], "x")], ("out", ZEROS, ([1, 0, 0], [1]), 10))):
            self.assertEqual(run(program, ([1], [0]), ONES, 100), told, program)
            self.assertEqual(slow_run(program, ([1], [0]), ONES, 100), told, program)
            self.assertEqual(run(lists_for_tuples(program), [(1,), (0,)], ((), (1,)), 100), told)

    def test_just_most_passings_and_one_more(self):
        for program, told in (([("put", 0, "x")] * 3, ("out", ZEROS, ONES, 3)), ([("turn", "x"), ("take", 0, "x")], ("stopped", 3)),
                              ([("round", "x", [("turn", "y")], "x")], ("out", ZEROS, ([0], [1]), 4)), ([("put", 1, "x"), ("stop",)], ("stopped", 1)),
                              ([("by", "x", [], [], "x")], ("out", ZEROS, ONES, 2))):
            number = told[-1]
            self.assertEqual(run(program, ZEROS, ONES, number), told)
            self.assertEqual(run(program, ZEROS, ONES, number + 1), told)
            self.assertEqual(run(program, ZEROS, ONES, 10 ** 9), told)
            for fewer in range(number):
                self.assertIsNone(run(program, ZEROS, ONES, fewer), (program, fewer))
        self.assertEqual(run([], ZEROS, ONES, 0), ("out", ZEROS, ONES, 0))
        self.assertEqual(run([("stop",)], ZEROS, ONES, 0), ("stopped", 0))
        self.assertEqual(run([("take", 1, "x")], ZEROS, ONES, 1), ("stopped", 1))

    def test_under_way_for_ever(self):
        self.assertIsNone(run([("round", "x", [("put", 1, "x")], "x")], ZEROS, ZEROS, 100000))
        self.assertIsNone(run([("round", "x", [], "y")], ZEROS, ONES, 99999))

    def test_piles_are_told_least(self):
        self.assertEqual(run([], ([0, 1], [0, 1, 0, 1]), ([1, 1], [1]), 5), ("out", ([], [0, 1]), ONES, 0))
        self.assertEqual(run([("put", 1, "x"), ("take", 0, "y")], ([], [0, 1]), ([0], [1]), 5), ("out", ([], [1, 0]), ONES, 2))

    def test_by_chance(self):
        kinds = {}
        for seed in range(1500):
            chance = Chance(seed)
            program = some_program(chance, 3)
            x, y = some_endless(chance, 4), some_endless(chance, 4)
            told = run(program, x, y, 60)
            self.assertEqual(told, slow_run(program, x, y, 60), program)
            kinds[told and told[0]] = kinds.get(told and told[0], 0) + 1
            if told is not None:
                self.assertEqual(run(program, x, y, told[-1]), told)
                self.assertIsNone(run(program, x, y, told[-1] - 1) if told[-1] else None)
        self.assertGreater(min(kinds[None], kinds["out"], kinds["stopped"]), 15)

    def test_gone_back(self):
        """A run comes out with u, v just if the back program's with u, v comes out with x, y, by as many passings."""
        out = 0
        for seed in range(300):
            chance = Chance(seed + 7000)
            program = some_program(chance, 3, 3)
            back = back_program(program)
            x, y = some_endless(chance, 4), some_endless(chance, 4)
            for one, other in ((program, back), (back, program)):
                told = run(one, x, y, 100)
                if told is not None and told[0] == "out":
                    out += 1
                    start = run([], x, y, 0)[1:3]
                    self.assertEqual(run(other, told[1], told[2], told[3]), ("out", *start, told[3]))
        self.assertGreater(out, 100)

    def test_depth(self):
        for word in ("round", "by"):
            program = deep_program(100, word)
            told = run(program, ONES, ZEROS, 2000)
            self.assertEqual(told, slow_run(program, ONES, ZEROS, 2000))

    def test_what_is_passed_stays_and_what_is_told_is_new(self):
        program = [("by", "x", [], [("put", 1, "x")], "y")]
        x = ([1], [0])
        told = run(program, x, ZEROS, 9)
        told[1][0].append(1)
        told[1][1].append(1)
        self.assertEqual((program, x), ([("by", "x", [], [("put", 1, "x")], "y")], ([1], [0])))
        self.assertEqual(run(program, x, ZEROS, 9), ("out", ([1], [0]), ([1], [0]), 3))
        told = run([], x, x, 9)
        self.assertEqual(len({id(row) for pile in told[1:3] for row in pile}), 4)

    def test_errors(self):
        for deed in NO_DEEDS:
            program = [deed]
            self.assertIs(raised(BadProgram, run, program, None, None, None).thing, program)
        for thing in ANYTHING:
            if thing not in ([], ()):
                self.assertIs(raised(BadProgram, run, thing, None, None, None).thing, thing)
            self.assertIs(raised(BadEndless, run, [], thing, None, None).thing, thing)
            self.assertIs(raised(BadEndless, run, [], ZEROS, thing, None).thing, thing)
            if not isinstance(thing, int) or isinstance(thing, bool) or thing < 0:
                self.assertIs(raised(BadMost, run, [], ZEROS, ZEROS, thing).thing, thing)


if __name__ == "__main__":
    unittest.main()
