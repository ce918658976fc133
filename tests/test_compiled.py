"""[73], and of [74] that a program without rounds has a net that comes to rest at an open net."""

import unittest

from anything import ANYTHING, raised
from chances import Chance, some_endless, some_program
from test_programs import NO_DEEDS, lists_for_tuples
from twinforks.compiled import net_of_program
from twinforks.errors import BadProgram
from twinforks.formrows import alike
from twinforks.nets import Net
from twinforks.plugging import renamed, reordered
from twinforks.programs import back_program, rounds_in
from twinforks.resting import rest
from twinforks.runs import run
from twinforks.stills import is_open
from twinforks.walking import walk

ENDS = ["in", "out"]
NETS = [
    ([], [], [("in", "out")]), ([("put", 0, "x")], [("x", "out", "in", "s"), ("stop", "s")], []), ([("put", 1, "y")], [("y", "out", "s", "in"), ("stop", "s")], []),
    ([("take", 0, "y")], [("y", "in", "out", "s"), ("stop", "s")], []), ([("take", 1, "x")], [("x", "in", "s", "out"), ("stop", "s")], []),
    ([("turn", "x")], [("x", "in", "p", "q"), ("x", "out", "q", "p")], []), ([("stop",)], [("stop", "in"), ("stop", "out")], []),
    ([("by", "x", [], [("stop",)], "y")], [("x", "in", "p", "q"), ("y", "out", "p", "r"), ("stop", "q"), ("stop", "r")], []),
    ([("by", "y", [("turn", "y")], [], "y")], [("y", "in", "p", "q"), ("y", "p", "m", "n"), ("y", "r", "n", "m"), ("y", "out", "r", "q")], []),
    ([("round", "x", [], "y")], [("x", "p", "in", "l"), ("y", "p", "out", "l")], []),
    ([("round", "y", [("put", 0, "x")], "x")], [("y", "p", "in", "l"), ("x", "q", "p", "s"), ("stop", "s"), ("x", "q", "out", "l")], []),
    ([("put", 0, "x"), ("take", 0, "x"), ("stop",)], [("x", "p", "in", "s"), ("stop", "s"), ("x", "p", "q", "r"), ("stop", "r"), ("stop", "q"), ("stop", "out")], []),
    ([("stop",), ("stop",)], [("stop", "in"), ("stop", "p"), ("stop", "p"), ("stop", "out")], []),
    ([("by", "x", [("stop",)], [("by", "y", [], [], "x")], "x")],
     [("x", "in", "p", "q"), ("stop", "p"), ("x", "out", "r", "s"), ("stop", "r"), ("y", "q", "m", "n"), ("x", "s", "m", "n")], []),
]


def turned(net):
    """The net with the names of its ends exchanged, in the order in, out again."""
    return reordered(renamed(net, {"in": "out", "out": "in"}), ENDS)


class CompiledTest(unittest.TestCase):
    def test_nets(self):
        for program, cells, joins in NETS:
            net = net_of_program(program=program)
            self.assertEqual(net, Net(ENDS, cells, joins), program)
            self.assertEqual(net_of_program(lists_for_tuples(program)), net)

    def test_a_run_is_a_walk(self):
        for seed in range(400):
            chance = Chance(seed + 300)
            program = some_program(chance, 3)
            net = net_of_program(program)
            self.assertEqual(net.ends(), ENDS)
            for _ in range(2):
                x, y = some_endless(chance, 4), some_endless(chance, 4)
                for most in (200, chance.below(9)):
                    told = run(program, x, y, most)
                    walked = walk(net, "in", x, y, most)
                    if told is not None and told[0] == "out":
                        told = ("out", "out", *told[1:])
                    self.assertEqual(walked, told, program)

    def test_the_net_of_the_back_program(self):
        for program in [one[0] for one in NETS] + [some_program(Chance(seed), 3) for seed in range(150)]:
            self.assertEqual(net_of_program(back_program(program)), turned(net_of_program(program)), program)

    def test_without_rounds_they_come_to_rest_open(self):
        tried = 0
        for seed in range(300):
            program = some_program(Chance(seed), 3, 3)
            if rounds_in(program) == 0:
                found = rest(net_of_program(program), 2000)
                self.assertTrue(is_open(found[0]), program)
                tried += 1
        self.assertGreater(tried, 60)

    def test_great_ones(self):
        net = net_of_program([("turn", "x")] * 400)
        self.assertEqual(len(net.cells()), 800)
        self.assertTrue(alike(rest(net, 2000)[0], Net(ENDS, [], [("in", "out")])))

    def test_errors(self):
        for thing in [*ANYTHING, *[[deed] for deed in NO_DEEDS]]:
            if thing not in ([], ()):
                self.assertIs(raised(BadProgram, net_of_program, thing).thing, thing)


if __name__ == "__main__":
    unittest.main()
