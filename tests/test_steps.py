"""[51] to [53]."""

import unittest

import model
from anything import ANYTHING, raised
from samples import AT_REST, AWAY, CROSSED, HALVES, NOTHING, RINGS, WIRE, nets, open_nets
from twinforks.errors import BadNet, BadStep, NotOpen, NotStill
from twinforks.formrows import alike, form
from twinforks.meetings import meetings
from twinforks.nets import Net
from twinforks.stills import inner, is_open, pairs
from twinforks.steps import is_step, stepped, steps_at, undone

DOUBLE = Net(["a", "b"], [("x", "a", "p", "q"), ("x", "b", "p", "q")], [])
STOPS = Net(["a"], [("y", "a", "p", "q"), ("stop", "p"), ("stop", "q")], [])
TURNS = Net(["a", "c", "d", "e", "f"], [("y", "a", "p", "q"), ("x", "p", "c", "d"), ("x", "q", "e", "f")], [])
LOOP = Net([], [], [("l", "l")])


class GrowTest(unittest.TestCase):
    def test_on_a_wire(self):
        self.assertTrue(stepped(net=WIRE, step=("grow", "x", "a")) == DOUBLE)
        self.assertTrue(stepped(WIRE, ["grow", "x", "b"]) == DOUBLE)
        self.assertEqual(stepped(WIRE, ("grow", "y", "a")).cells(), [("y", "a", "w1", "w2"), ("y", "b", "w1", "w2")])
        self.assertTrue(is_step(net=WIRE, thing=("grow", "x", "a")))

    def test_on_a_stop(self):
        net = Net(["a"], [("stop", "a")], [])
        self.assertTrue(stepped(net, ("grow", "y", "a")) == STOPS)
        told = stepped(STOPS, ("grow", "x", "w2"))
        self.assertEqual(told.cells(), [("y", "a", "w1", "w2"), ("stop", "w1"), ("x", "w2", "w3", "w4"), ("stop", "w3"), ("stop", "w4")])

    def test_on_legs(self):
        # A leg with an end, two legs of one fork, of two forks.
        net = Net(["a", "b"], [("x", "a", "b", "p"), ("stop", "p")], [])
        self.assertEqual(stepped(net, ("grow", "y", "b")).cells(), [("x", "a", "w1", "w2"), ("y", "b", "w3", "w4"), ("y", "w1", "w3", "w4"), ("stop", "w2")])
        self.assertEqual(stepped(AT_REST, ("grow", "x", "w1")).cells(), [("x", "a", "w1", "w2"), ("x", "w1", "w3", "w4"), ("x", "w2", "w3", "w4")])

    def test_not_on_backs(self):
        for step in (("grow", "x", "a"), ("grow", "y", "b"), ("grow", "x", "w9"), ("grow", "x", "c"), ("grow", "stop", "w1"), ("grow", "x", "x")):
            self.assertIs(is_step(HALVES, step), False)
            self.assertIs(raised(BadStep, stepped, HALVES, step).step, step)
        self.assertFalse(is_step(TURNS, ("grow", "x", "w1")))
        self.assertTrue(is_step(TURNS, ("grow", "x", "c")))


class ShrinkTest(unittest.TestCase):
    def test_shrink(self):
        self.assertTrue(stepped(DOUBLE, ("shrink", 0)) == WIRE)
        self.assertTrue(stepped(DOUBLE, ("shrink", 1)) == WIRE)
        self.assertTrue(stepped(STOPS, ("shrink", 0)) == Net(["a"], [("stop", "a")], []))

    def test_what_does_not_shrink(self):
        # Crossed legs, unlike kinds, one stop, one leg alone, its own legs, a stop itself.
        half = Net(["a", "b", "c", "d"], [("x", "a", "p", "c"), ("x", "b", "p", "d")], [])
        unlike = Net(["a", "b"], [("x", "a", "p", "q"), ("y", "b", "p", "q")], [])
        for net in (CROSSED, unlike, HALVES, half, AT_REST, STOPS):
            for index in range(1 if net is STOPS else 0, len(net.cells()) + 1):
                self.assertFalse(is_step(net, ("shrink", index)))
        # Two forks on one, their legs wired: backs become one wire.
        net = Net(["a"], [("y", "a", "p", "q"), ("x", "p", "r", "s"), ("x", "q", "r", "s")], [])
        self.assertEqual(stepped(net, ("shrink", 2)).cells(), [("y", "a", "w1", "w1")])


class TurnTest(unittest.TestCase):
    def test_turn(self):
        self.assertEqual(stepped(TURNS, ("turn", 0)).cells(), [("x", "a", "w1", "w2"), ("y", "w1", "c", "e"), ("y", "w2", "d", "f")])
        self.assertTrue(stepped(stepped(TURNS, ("turn", 0)), ("turn", 0)) == TURNS)

    def test_legs_wired_to_one_another(self):
        net = Net(["a", "c", "d"], [("y", "a", "p", "q"), ("x", "p", "c", "v"), ("x", "q", "v", "d")], [])
        self.assertEqual(stepped(net, ("turn", 0)).cells(), [("x", "a", "w1", "w2"), ("y", "w1", "c", "w3"), ("y", "w2", "w3", "d")])
        net = Net(["a"], [("y", "a", "p", "q"), ("x", "p", "u", "v"), ("x", "q", "u", "v")], [])
        self.assertEqual(stepped(net, ("turn", 0)).cells(), [("x", "a", "w1", "w2"), ("y", "w1", "w3", "w3"), ("y", "w2", "w4", "w4")])

    def test_what_does_not_turn(self):
        one = Net(["a", "b", "c", "d"], [("y", "a", "p", "b"), ("x", "p", "c", "d")], [])
        alike_kinds = Net(["a", "c", "d", "e", "f"], [("y", "a", "p", "q"), ("x", "p", "c", "d"), ("y", "q", "e", "f")], [])
        for net in (one, alike_kinds, STOPS, DOUBLE, NOTHING):
            for index in range(len(net.cells()) + 2):
                self.assertFalse(is_step(net, ("turn", index)))
        self.assertFalse(is_step(TURNS, ("turn", 1)))


class LoopTest(unittest.TestCase):
    def test_loops(self):
        self.assertTrue(stepped(NOTHING, ("loop",)) == LOOP)
        self.assertTrue(stepped(LOOP, ("unloop",)) == NOTHING)
        self.assertEqual(stepped(LOOP, ["loop"]).loops(), 2)
        self.assertFalse(is_step(NOTHING, ("unloop",)))
        self.assertEqual(raised(BadStep, stepped, WIRE, ("unloop",)).step, ("unloop",))


class AllStepsTest(unittest.TestCase):
    def test_steps_at(self):
        self.assertEqual(steps_at(net=WIRE), [("grow", "x", "a"), ("grow", "y", "a"), ("loop",)])
        self.assertEqual(steps_at(NOTHING), [("loop",)])
        self.assertEqual(steps_at(LOOP), [("loop",), ("unloop",)])
        self.assertEqual(steps_at(DOUBLE), [("grow", "x", "w1"), ("grow", "y", "w1"), ("grow", "x", "w2"), ("grow", "y", "w2"), ("shrink", 0), ("shrink", 1),
                                            ("loop",)])
        self.assertEqual(steps_at(TURNS)[-2:], [("turn", 0), ("loop",)])
        self.assertEqual(steps_at(STOPS)[-2:], [("shrink", 0), ("loop",)])

    def test_they_are_all(self):
        """Just these of all that could be."""
        for net in open_nets(60):
            all_steps = [("grow", kind, wire) for wire in net.wires() for kind in ("x", "y")]
            all_steps += [(word, index) for word in ("shrink", "turn") for index in range(len(net.cells()) + 2)] + [("loop",), ("unloop",)]
            self.assertEqual(steps_at(net), [step for step in all_steps if is_step(net, step)])

    def test_against_the_model(self):
        """What steps do, that they lead from an open net to one with the same pairing, and back."""
        done = {}
        for net in open_nets(60):
            pairing = form(net)
            for step in steps_at(net):
                there = stepped(net, step)
                self.assertTrue(there == model.stepped(net, step), step)
                self.assertTrue(is_open(there))
                self.assertEqual(form(there), pairing)
                self.assertTrue(alike(net, there))
                back = undone(net=net, step=step)
                self.assertIn(back, steps_at(there))
                self.assertTrue(stepped(there, back) == net, step)
                done[(step[0], back[0])] = done.get((step[0], back[0]), 0) + 1
        for words in (("grow", "shrink"), ("shrink", "grow"), ("turn", "turn"), ("loop", "unloop"), ("unloop", "loop")):
            self.assertGreater(done[words], 5)

    def test_undone_as_it_is_told(self):
        self.assertEqual(undone(WIRE, ("grow", "x", "b")), ("shrink", 0))
        self.assertEqual(undone(DOUBLE, ("shrink", 1)), ("grow", "x", "a"))
        self.assertEqual(undone(STOPS, ("shrink", 0)), ("grow", "y", "a"))
        self.assertEqual(undone(TURNS, ("turn", 0)), ("turn", 0))
        self.assertEqual((undone(NOTHING, ("loop",)), undone(LOOP, ("unloop",))), (("unloop",), ("loop",)))
        # A grow's back step is the shrink of the one of its two forks with the least index.
        net = Net(["a", "b", "c"], [("x", "b", "p", "q"), ("stop", "p"), ("stop", "q")], [("a", "c")])
        self.assertEqual(undone(net, ("grow", "y", "c")), ("shrink", 0))
        self.assertEqual(undone(net, ("grow", "y", "w2")), ("shrink", 2))
        net = Net(["b", "a"], DOUBLE.cells(), [])
        self.assertEqual(undone(net, ("shrink", 0)), ("grow", "x", "b"))
        for net in open_nets(30):
            for step in steps_at(net):
                back = undone(net, step)
                there = stepped(net, step)
                if step[0] == "grow":
                    # Of two forks that it makes the one with the least index.
                    fork = there.cells()[back[1]]
                    self.assertEqual(fork[0], step[1])
                    self.assertEqual(back[1], [cell[0] == fork[0] and cell[2:] == fork[2:] for cell in there.cells()].index(True))
                elif step[0] == "shrink":
                    self.assertIn(back[2], there.wires())
                elif step[0] == "turn":
                    self.assertEqual(there.cells()[back[1]][1] in there.ends(), net.cells()[step[1]][1] in net.ends())

    def test_pairs_are_kept_by_turns(self):
        for net in open_nets(60):
            for step in steps_at(net):
                if step[0] in ("turn", "loop", "unloop"):
                    self.assertEqual(sorted(pairs(stepped(net, step))), sorted(pairs(net)))


class ErrorsTest(unittest.TestCase):
    def test_no_net(self):
        for thing in ANYTHING:
            if not isinstance(thing, Net):
                for work in (is_step, stepped, undone):
                    self.assertIs(raised(BadNet, work, thing, None).thing, thing)
                self.assertIs(raised(BadNet, steps_at, thing).thing, thing)

    def test_not_open(self):
        for net in nets(20):
            for work in (is_step, stepped, undone):
                self.assertEqual(raised(NotStill, work, net, None).pair, meetings(net)[0])
            self.assertEqual(raised(NotStill, steps_at, net).pair, meetings(net)[0])
        for net in (RINGS, AWAY):
            for work in (is_step, stepped, undone):
                self.assertEqual(raised(NotOpen, work, net, None).index, inner(net)[0])
            self.assertEqual(raised(NotOpen, steps_at, net).index, inner(net)[0])
        both = Net([], [("stop", "a"), ("stop", "a"), ("x", "p", "p", "q"), ("stop", "q")], [])
        self.assertEqual(raised(NotStill, steps_at, both).pair, meetings(both)[0])

    def test_no_step(self):
        for thing in [*ANYTHING, ("grow",), ("grow", "x"), ("grow", "x", "a", "a"), ("shrink",), ("shrink", True), ("shrink", -1), ("turn", "a"),
                      ("turn", 10 ** 12), ("shrink", 10 ** 30), ("unloop", 1), ("loop", 1), ("melt", 0), "loop", ["loop", "loop"], ("grow", ["x"], "a"),
                      ("grow", "x", ["a"])]:
            if thing != ("loop",):
                self.assertIs(is_step(WIRE, thing), False)
                self.assertIs(raised(BadStep, stepped, WIRE, thing).step, thing)
                self.assertIs(raised(BadStep, undone, WIRE, thing).step, thing)


if __name__ == "__main__":
    unittest.main()
