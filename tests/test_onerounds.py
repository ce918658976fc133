"""[78]."""

import unittest

from anything import ANYTHING, raised
from chances import Chance, some_endless, some_machine, some_program
from test_programs import NO_DEEDS, lists_for_tuples
from twinforks.compiled import net_of_program
from twinforks.errors import BadMachine, BadProgram
from twinforks.machinenets import net_of_machine
from twinforks.machines import Machine, machine_run
from twinforks.onerounds import one_round, program_of_machine
from twinforks.programs import deeds_in, is_program, rounds_in
from twinforks.runs import run
from twinforks.walking import walk

ZEROS = ([], [0])
ONES = ([], [1])
COUNTING = [("round", "x", [("round", "y", [("turn", "x")], "x"), ("turn", "y")], "x"), ("by", "y", [("round", "y", [], "y")], [("turn", "x")], "x")]


def depth_of(program):
    inner = [part for deed in program for part in deed if isinstance(part, list)]
    return 1 + max([depth_of(one) for one in inner], default=0)


def has_round_within(program, within):
    for deed in program:
        if within and deed[0] == "round":
            return True
        if any(has_round_within(part, within or deed[0] == "round") for part in deed if isinstance(part, list)):
            return True
    return False


class OneRoundTest(unittest.TestCase):
    def check_form(self, told):
        self.assertTrue(is_program(told))
        self.assertLessEqual(rounds_in(told), 1)
        self.assertFalse(has_round_within(told, False))
        self.assertLessEqual(deeds_in(told), 5000)
        self.assertLessEqual(depth_of(told), 40)

    def check_run(self, told, net, x, y):
        """The run goes as a walk of the net does; a walk under way behind two hundred passings is taken to be endless."""
        walked = walk(net, "in", x, y, 200)
        if walked is None:
            self.assertIsNone(run(told, x, y, 20000))
            return None
        number = walked[-1]
        behind = run(told, x, y, 1000 * number + 1000)
        if walked[0] == "out":
            self.assertEqual(behind[:3], ("out", *walked[2:4]))
        else:
            self.assertEqual(behind[0], "stopped")
        return walked[0]

    def test_by_name(self):
        self.check_form(one_round(program=COUNTING))
        self.check_form(program_of_machine(machine=Machine([("a", "stay"), ("b", "stay")], [])))

    def test_edges(self):
        for program in ([], [("stop",)], [("put", 0, "x"), ("by", "x", [("turn", "y")], [], "y")], [("round", "x", [("turn", "y")], "x")], COUNTING,
                        [("stop",), *COUNTING], [*COUNTING, ("stop",)], [("round", "x", [("round", "x", [("round", "y", [], "y")], "x")], "x")],
                        [("round", "x", [("put", 1, "x")], "x"), ("round", "x", [], "y")], [("round", "x", [("stop",)], "y"), ("round", "x", [], "x")],
                        [("round", "x", [], "y"), ("round", "y", [], "x"), ("round", "x", [], "y")]):
            told = one_round(program)
            self.check_form(told)
            self.assertEqual(told, one_round(lists_for_tuples(program)))
            net = net_of_program(program)
            for x in (ZEROS, ONES, ([1, 0], [1])):
                for y in (ZEROS, ONES, ([0, 0, 1], [0])):
                    self.check_run(told, net, x, y)

    def test_by_chance(self):
        kinds = {}
        for seed in range(1200):
            chance = Chance(seed)
            program = some_program(chance, 3)
            if deeds_in(program) > 20 or rounds_in(program) < 2:
                continue
            told = one_round(program)
            self.check_form(told)
            net = net_of_program(program)
            for _ in range(3):
                kind = self.check_run(told, net, some_endless(chance, 5), some_endless(chance, 5))
                kinds[kind] = kinds.get(kind, 0) + 1
        self.assertGreater(min(kinds[None], kinds["out"], kinds["stopped"]), 15)

    def test_the_greatest(self):
        for program in ([("round", "x", [("by", "y", [("turn", "x")], [], "x")], "y")] * 6 + [("turn", "y")] * 2, [("round", "x", [], "x")] * 20):
            self.assertEqual(deeds_in(program), 20)
            told = one_round(program)
            self.check_form(told)
            for x, y in ((ZEROS, ZEROS), (ONES, ([0, 1], [0])), (([1, 0, 0], [1]), ([0, 1, 1], [0]))):
                self.check_run(told, net_of_program(program), x, y)

    def test_machines(self):
        kinds = {}
        for seed in range(150):
            chance = Chance(seed)
            machine = Machine(*some_machine(chance, 2 + chance.below(7)))
            told = program_of_machine(machine)
            self.check_form(told)
            net = net_of_machine(machine)
            for _ in range(3):
                x, y = some_endless(chance, 5), some_endless(chance, 5)
                kind = self.check_run(told, net, x, y)
                kinds[kind] = kinds.get(kind, 0) + 1
                done = machine_run(machine, x, y, 200)
                if done is not None and done[0] == "out":
                    self.assertEqual(run(told, x, y, 100000)[:3], done[:3])
        self.assertGreater(min(kinds["out"], kinds["stopped"]), 50)
        self.assertGreater(kinds[None], 5)

    def test_machines_that_never_end(self):
        machine = Machine([("a", "right"), ("b", "right"), ("c", "stay")], [("a", 0, 1, "b"), ("b", 0, 0, "b"), ("b", 1, 1, "c")])
        told = program_of_machine(machine)
        self.assertIsNone(run(told, ZEROS, ZEROS, 30000))
        self.assertEqual(run(told, ZEROS, ([0, 0, 0, 1], [0]), 30000)[:3], machine_run(machine, ZEROS, ([0, 0, 0, 1], [0]), 9)[:3])
        # A last state that is never come to.
        self.assertEqual(run(program_of_machine(Machine([("a", "left"), ("b", "stay")], [])), ZEROS, ZEROS, 9000)[0], "stopped")

    def test_what_is_told_is_new(self):
        inner = [("turn", "x")]
        program = [("by", "x", inner, inner, "y")]
        told = one_round(program)
        self.assertIsNot(told[0][2], told[0][3])
        told[0][2].append(("stop",))
        self.assertEqual((one_round(program), inner), ([("by", "x", [("turn", "x")], [("turn", "x")], "y")], [("turn", "x")]))

    def test_errors(self):
        for thing in [*ANYTHING, *[[deed] for deed in NO_DEEDS]]:
            if thing not in ([], ()):
                self.assertIs(raised(BadProgram, one_round, thing).thing, thing)
            self.assertIs(raised(BadMachine, program_of_machine, thing).thing, thing)


if __name__ == "__main__":
    unittest.main()
