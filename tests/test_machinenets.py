"""[77]: nets of machines."""

import unittest

from anything import ANYTHING, raised
from chances import Chance, some_endless, some_machine
from test_compiled import turned
from twinforks.errors import BadMachine
from twinforks.machinenets import net_of_machine
from twinforks.machines import Machine, back_machine, machine_run
from twinforks.nets import Net
from twinforks.walking import walk

ENDS = ["in", "out"]
MOVES = {"right": ("y", "x"), "left": ("x", "y")}


def slow_net(states, rules):
    """The net by the words of [77]: first all of it apart, then what is joined."""
    cells, joins = [], []
    names = [name for name, _ in states]
    for at, (name, move) in enumerate(states):
        door, eye = f"d{at}", f"e{at}"
        if at > 0:
            cells.append(("y", f"{door}b", f"{door}l0", f"{door}l1"))
        if at < len(states) - 1:
            cells.append(("y", f"{eye}b", f"{eye}l0", f"{eye}l1"))
        # The two wires to the door's and to the eye's side.
        sides = (f"{door}b" if at > 0 else "in", f"{eye}b" if at < len(states) - 1 else "out")
        if move == "stay":
            joins.append(sides)
        else:
            cells.extend((kind, f"m{at}{side}", f"m{at}p", f"m{at}q") for kind, side in zip(MOVES[move], "de"))
            joins.extend(zip((f"m{at}d", f"m{at}e"), sides))
    for at in range(len(states)):
        for figure in (0, 1):
            found = [names.index(rule[3]) for rule in rules if (rule[0], rule[1]) == (names[at], figure)]
            if found:
                written = [rule[2] for rule in rules if (rule[0], rule[1]) == (names[at], figure)][0]
                joins.append((f"e{at}l{figure}", f"d{found[0]}l{written}"))
            elif at < len(states) - 1:
                cells.append(("stop", f"e{at}l{figure}"))
            if at > 0 and not [rule for rule in rules if (rule[3], rule[2]) == (names[at], figure)]:
                cells.append(("stop", f"d{at}l{figure}"))
    return Net(ENDS, cells, joins)


class MachineNetsTest(unittest.TestCase):
    def test_by_name(self):
        machine = Machine([("a", "stay"), ("b", "stay")], [("a", 1, 0, "b")])
        net = net_of_machine(machine=machine)
        self.assertEqual(net, Net(ENDS, [("y", "in", "s", "l"), ("stop", "s"), ("y", "out", "l", "t"), ("stop", "t")], []))

    def test_moves(self):
        states = [("a", "right"), ("b", "left")]
        cells = [("y", "in", "p", "q"), ("x", "e", "p", "q"), ("y", "e", "l", "s"), ("stop", "s"), ("y", "d", "l", "t"), ("stop", "t"), ("x", "d", "m", "n"), ("y", "out", "m", "n")]
        self.assertEqual(net_of_machine(Machine(states, [("a", 0, 0, "b")])), Net(ENDS, cells, []))
        cells = [("x", "in", "p", "q"), ("y", "e", "p", "q"), ("y", "e", "s", "t"), ("stop", "s"), ("stop", "t"), ("y", "d", "u", "v"), ("stop", "u"), ("stop", "v"),
                 ("y", "d", "m", "n"), ("x", "out", "m", "n")]
        self.assertEqual(net_of_machine(Machine([("a", "left"), ("b", "right")], [])), Net(ENDS, cells, []))

    def test_states_that_are_never_come_to(self):
        machine = Machine([("a", "stay"), ("b", "left"), ("c", "stay")], [("b", 0, 1, "b"), ("a", 1, 1, "c")])
        self.assertEqual(net_of_machine(machine), slow_net(machine.states(), machine.rules()))
        self.assertEqual(walk(net_of_machine(machine), "in", ([], [0]), ([], [1]), 9), ("out", "out", ([], [0]), ([], [1]), 2))

    def test_by_chance(self):
        out = 0
        for seed in range(300):
            chance = Chance(seed)
            states, rules = some_machine(chance, 2 + chance.below(7))
            machine = Machine(states, rules)
            net = net_of_machine(machine)
            self.assertEqual(net, slow_net(states, rules))
            self.assertEqual(net_of_machine(back_machine(machine)), turned(net))
            for _ in range(3):
                left, right = some_endless(chance, 4), some_endless(chance, 4)
                out += self.check_walk(machine, net, left, right)
        self.assertGreater(out, 150)

    def check_walk(self, machine, net, left, right):
        """A walk comes out at out just if the run does; two passings for each rule and each entering that moves."""
        told = machine_run(machine, left, right, 40)
        walked = walk(net, "in", left, right, 200)
        if told is None:
            self.assertIsNone(walk(net, "in", left, right, 80))
            return False
        if told[0] == "stopped":
            self.assertEqual(walked[0], "stopped")
            return False
        passings = 2 * told[3] + 2 * self.moving_states(machine, left, right, told[3])
        self.assertEqual(walked, ("out", "out", told[1], told[2], passings))
        return True

    def moving_states(self, machine, left, right, number):
        """How many of the states that are entered move, the run cut behind each of its rules."""
        moves = dict(machine.states())
        entered = [machine.states()[0][0]]
        for _ in range(number):
            # The machine that is stopped in the state to which it has come, as it has no more rules.
            entered.append(self.state_behind(machine, left, right, len(entered)))
        return len([state for state in entered if moves[state] != "stay"])

    def state_behind(self, machine, left, right, rules):
        state = machine.states()[0][0]
        moves = dict(machine.states())
        tape = {-1 - k: (left[0] + left[1] * 200)[k] for k in range(100)}
        tape.update({k: (right[0] + right[1] * 200)[k] for k in range(100)})
        at = {"left": -1, "right": 1, "stay": 0}[moves[state]]
        for _ in range(rules):
            found = [rule for rule in machine.rules() if rule[0] == state and rule[1] == tape[at]][0]
            tape[at] = found[2]
            state = found[3]
            at += {"left": -1, "right": 1, "stay": 0}[moves[state]]
        return state

    def test_errors(self):
        for thing in ANYTHING:
            self.assertIs(raised(BadMachine, net_of_machine, thing).thing, thing)


if __name__ == "__main__":
    unittest.main()
