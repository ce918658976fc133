"""[77], but for nets."""

import unittest

from anything import ANYTHING, raised
from chances import Chance, some_endless, some_machine
from programmodel import slow_machine_run
from twinforks.errors import BadEndless, BadMachine, BadMost, BadRules, BadStates
from twinforks.machines import Machine, back_machine, machine_run

STATES = [("a", "stay"), ("b", "left"), ("c", "right"), ("d", "stay")]
RULES = [("a", 0, 1, "b"), ("a", 1, 0, "c"), ("b", 0, 0, "b"), ("b", 1, 1, "d"), ("c", 1, 0, "d")]
ZEROS = ([], [0])
ONES = ([], [1])
NO_STATES = [None, "a", ("a",), ("a", "stay", "stay"), ("x", "stay"), ("A", "left"), ("a1b2c3d4e", "left"), (1, "left"), ("e", "up"), ("e", None), ("e", ["left"]),
             (["e"], "left"), "le"]
NO_RULES = [None, "abcd", ("a", 0, 0), ("a", 0, 0, "b", "b"), ("a", 2, 0, "b"), ("a", 0, 2, "b"), ("a", True, 0, "b"), ("a", 0, False, "b"), ("a", "0", 0, "b"),
            ("e", 0, 0, "b"), ("a", 0, 0, "e"), (0, 0, 0, "b"), ("a", 0, 0, 1), (["a"], 0, 0, "b"), ("a", 0, 0, ["b"]), ("d", 0, 0, "b"), ("b", 0, 0, "a"), ("d", 0, 0, "a"),
            ("a", None, 0, "b"), ("a", 0, -1, "b"), ("a", 0, 0, None)]


class MachineTest(unittest.TestCase):
    def test_by_name(self):
        machine = Machine(rules=RULES, states=STATES)
        self.assertEqual((machine.states(), machine.rules()), (STATES, RULES))
        self.assertEqual(machine_run(most=9, right=ONES, left=ZEROS, machine=machine), ("out", ZEROS, ([0], [1]), 2))
        self.assertEqual(back_machine(machine=machine), back_machine(machine))

    def test_order_and_equality(self):
        machine = Machine(STATES, RULES)
        for seed in range(10):
            other = Machine(tuple(list(state) for state in STATES), [list(rule) for rule in Chance(seed).mixed(RULES)])
            self.assertEqual(other, machine)
            self.assertEqual((other.states(), other.rules()), (STATES, RULES))
            self.assertEqual({type(one) for one in other.states() + other.rules()}, {tuple})
        self.assertNotEqual(machine, Machine(STATES, RULES[1:]))
        self.assertNotEqual(machine, Machine([STATES[0], STATES[2], STATES[1], STATES[3]], RULES))
        self.assertNotEqual(machine, Machine([("a", "left"), *STATES[1:]], RULES))
        for thing in ANYTHING:
            self.assertFalse(machine == thing)
            self.assertTrue(machine != thing)
        # Rules go by the places of their states, not by names.
        other = Machine([("b", "stay"), ("a", "left"), ("c", "stay")], [("a", 0, 0, "c"), ("b", 1, 1, "a"), ("b", 0, 1, "c")])
        self.assertEqual(other.rules(), [("b", 0, 1, "c"), ("b", 1, 1, "a"), ("a", 0, 0, "c")])

    def test_what_is_told_is_new(self):
        states, rules = list(STATES), list(RULES)
        machine = Machine(states, rules)
        states.clear()
        rules.clear()
        machine.states().clear()
        machine.rules().clear()
        self.assertEqual((machine.states(), machine.rules()), (STATES, RULES))

    def test_bad_states(self):
        for thing in ANYTHING:
            if not isinstance(thing, (list, tuple)):
                self.assertEqual(raised(BadStates, Machine, thing, None).index, 0)
        self.assertEqual(raised(BadStates, Machine, [], None).index, 0)
        self.assertEqual(raised(BadStates, Machine, [("a", "stay")], None).index, 1)
        for state in NO_STATES:
            for ahead in range(4):
                if state != "le" or ahead:
                    self.assertEqual(raised(BadStates, Machine, [*STATES[:ahead], state, None], None).index, ahead, state)
        self.assertEqual(raised(BadStates, Machine, [("a", "stay"), ("b", "left"), ("a", "left"), None], None).index, 2)
        self.assertEqual(Machine([("a", "stay"), ("in", "left")], []).rules(), [])

    def test_bad_rules(self):
        for thing in ANYTHING:
            if not isinstance(thing, (list, tuple)):
                self.assertEqual(raised(BadRules, Machine, STATES, thing).index, 0)
        for rule in NO_RULES:
            for ahead in range(3):
                self.assertEqual(raised(BadRules, Machine, STATES, [*RULES[:ahead], rule, None]).index, ahead, rule)
        # No two with one state and read, no two with one next and written.
        for rule in (("a", 0, 1, "c"), ("c", 0, 1, "b"), ("b", 1, 0, "c"), ("c", 0, 0, "d"), ("a", 0, 1, "b")):
            self.assertEqual(raised(BadRules, Machine, STATES, [*RULES, rule]).index, 5, rule)
        self.assertEqual(len(Machine(STATES, [*RULES, ("c", 0, 1, "c")]).rules()), 6)


class RunTest(unittest.TestCase):
    def test_some(self):
        machine = Machine(STATES, RULES)
        self.assertEqual(machine_run(machine, ONES, ZEROS, 9), ("out", ONES, ([1, 1], [0]), 2))
        self.assertIsNone(machine_run(machine, ZEROS, ZEROS, 10000))
        self.assertEqual(machine_run(machine, ZEROS, ([1, 0], [0]), 9), ("stopped", "c", ZEROS, ZEROS, 1))

    def test_without_a_rule(self):
        for move, left, right in (("stay", ONES, ZEROS), ("left", ONES, ([1], [0])), ("right", ([0], [1]), ZEROS)):
            machine = Machine([("a", move), ("b", "left")], [])
            self.assertEqual(machine_run(machine, ONES, ZEROS, 0), ("stopped", "a", left, right, 0))

    def test_one_rule(self):
        """From the first state to the last one; a rule that moves nothing and writes what it read."""
        machine = Machine([("a", "stay"), ("b", "stay")], [("a", 1, 1, "b")])
        self.assertEqual(machine_run(machine, ZEROS, ONES, 1), ("out", ZEROS, ONES, 1))
        self.assertIsNone(machine_run(machine, ZEROS, ONES, 0))
        self.assertEqual(machine_run(machine, ZEROS, ZEROS, 0), ("stopped", "a", ZEROS, ZEROS, 0))
        machine = Machine([("a", "right"), ("b", "right")], [("a", 0, 1, "b")])
        self.assertEqual(machine_run(machine, ZEROS, ([1, 0], [0]), 5), ("out", ([1, 1], [0]), ZEROS, 1))

    def test_just_most_rules(self):
        machine = Machine([("a", "stay"), ("b", "left"), ("c", "stay")], [("a", 0, 0, "b"), ("b", 1, 1, "b"), ("b", 0, 0, "c")])
        left = ([1] * 7, [0])
        told = machine_run(machine, left, ZEROS, 9)
        self.assertEqual(told, ("out", ZEROS, ([0, 1, 1, 1, 1, 1, 1, 1], [0]), 9))
        self.assertIsNone(machine_run(machine, left, ZEROS, 8))
        self.assertIsNone(machine_run(machine, ONES, ZEROS, 10000))

    def test_by_chance(self):
        kinds = {}
        for seed in range(400):
            chance = Chance(seed)
            states, rules = some_machine(chance, 2 + chance.below(7))
            machine = Machine(states, rules)
            left, right = some_endless(chance, 4), some_endless(chance, 4)
            told = machine_run(machine, left, right, 40)
            self.assertEqual(told, slow_machine_run(states, rules, left, right, 40))
            kinds[told and told[0]] = kinds.get(told and told[0], 0) + 1
            if told is not None:
                self.assertEqual(machine_run(machine, left, right, told[-1]), told)
                if told[-1]:
                    self.assertIsNone(machine_run(machine, left, right, told[-1] - 1))
        self.assertGreater(min(kinds["out"], kinds["stopped"]), 50)
        self.assertGreater(kinds[None], 5)

    def test_back_machine(self):
        back = back_machine(Machine(STATES, RULES))
        self.assertEqual(back.states(), [("d", "stay"), ("c", "left"), ("b", "right"), ("a", "stay")])
        self.assertEqual(back.rules(), [("d", 0, 1, "c"), ("d", 1, 1, "b"), ("c", 0, 1, "a"), ("b", 0, 0, "b"), ("b", 1, 0, "a")])
        out = 0
        for seed in range(300):
            chance = Chance(seed)
            machine = Machine(*some_machine(chance, 2 + chance.below(7)))
            self.assertEqual(back_machine(back_machine(machine)), machine)
            left, right = some_endless(chance, 4), some_endless(chance, 4)
            told = machine_run(machine, left, right, 60)
            if told is not None and told[0] == "out":
                out += 1
                # Which is left and which is right does not change.
                gone = machine_run(back_machine(machine), told[1], told[2], told[3])
                start = machine_run(Machine([("a", "stay"), ("b", "stay")], [("a", 0, 0, "b"), ("a", 1, 1, "b")]), left, right, 1)
                self.assertEqual(gone, ("out", start[1], start[2], told[3]))
        self.assertGreater(out, 50)

    def test_what_is_told_is_new(self):
        machine = Machine([("a", "stay"), ("b", "stay")], [("a", 0, 0, "b")])
        row = ([], [0])
        told = machine_run(machine, row, row, 5)
        self.assertEqual(len({id(one) for pile in told[1:3] for one in pile} | {id(one) for one in row}), 6)
        told[1][1].append(1)
        self.assertEqual(row, ZEROS)

    def test_errors(self):
        machine = Machine(STATES, RULES)
        for thing in ANYTHING:
            self.assertIs(raised(BadMachine, machine_run, thing, None, None, None).thing, thing)
            self.assertIs(raised(BadMachine, back_machine, thing).thing, thing)
            self.assertIs(raised(BadEndless, machine_run, machine, thing, None, None).thing, thing)
            self.assertIs(raised(BadEndless, machine_run, machine, ZEROS, thing, None).thing, thing)
            if not isinstance(thing, int) or isinstance(thing, bool) or thing < 0:
                self.assertIs(raised(BadMost, machine_run, machine, ZEROS, ZEROS, thing).thing, thing)


if __name__ == "__main__":
    unittest.main()
