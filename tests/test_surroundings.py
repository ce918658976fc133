"""[58] to [60]."""

import unittest

from anything import ANYTHING, raised
from chances import Chance, make_net, some_boxes
from samples import AT_REST, AWAY, CROSSED, GROWING, NOTHING, OPENING, WIRE, open_nets
from twinforks.errors import BadBox, BadEnds, BadMost, BadNet, BadShut, BadSurroundings
from twinforks.nets import Net
from twinforks.plugging import plugged
from twinforks.resting import rest
from twinforks.stills import is_open, pairs, shut
from twinforks.surroundings import fares, is_surroundings, lead, surrounded
from twinforks.tables import net_of
from twinforks.things import is_number

ENDS = ["a", "b"]
A0, A1, B0, B1 = ("a", [0], []), ("a", [1], []), ("b", [0], []), ("b", [1], [])
LEAD = Net(["a", "b", "in", "out"], [("x", "a", "in", "s"), ("x", "b", "out", "t"), ("stop", "s"), ("stop", "t")], [])
BARE = Net(["a", "b", "p", "q"], [], [("a", "p"), ("b", "q")])


class IsSurroundingsTest(unittest.TestCase):
    def test_is_surroundings(self):
        self.assertIs(is_surroundings(ends=ENDS, thing=LEAD), True)
        self.assertTrue(is_surroundings(("a", "b"), BARE))
        # Both leaves in one end's tree, the other end stopped; the two more in either order.
        one = Net(["a", "b", "p", "q"], [("y", "a", "q", "p"), ("stop", "b")], [])
        self.assertTrue(is_surroundings(ENDS, one))
        self.assertTrue(is_surroundings(["a"], Net(["a", "b", "c"], [("x", "a", "c", "s"), ("y", "s", "b", "t"), ("stop", "t")], [])))

    def test_what_is_none(self):
        ends = ["a", "b", "p", "q"]
        for thing in (
                WIRE, NOTHING, GROWING,
                # Ends in another order, one more, one fewer.
                Net(["b", "a", "p", "q"], [], [("a", "p"), ("b", "q")]), Net(["a", "b", "p", "q", "r"], [("stop", "r")], [("a", "p"), ("b", "q")]),
                Net(["a", "b", "p"], [("stop", "b")], [("a", "p")]),
                # The two more lead to one another, to a stop, to a fork.
                Net(ends, [], [("a", "b"), ("p", "q")]), Net(ends, [("stop", "a"), ("stop", "b")], [("p", "q")]),
                Net(ends, [("stop", "b"), ("stop", "q")], [("a", "p")]),
                # A loop, a wire between leaves, what is not open, what meets.
                Net(ends, [], [("a", "p"), ("b", "q"), ("l", "l")]), Net(ends, [("x", "a", "p", "s"), ("x", "b", "q", "s")], []),
                Net(ends, [("x", "a", "p", "s"), ("x", "s", "t", "t")], [("b", "q")]), Net(ends, [("x", "u", "u", "v"), ("stop", "v")], [("a", "p"), ("b", "q")]),
                Net(ends, [("stop", "u"), ("stop", "u")], [("a", "p"), ("b", "q")])):
            self.assertIs(is_surroundings(ENDS, thing), False)
        # One of the two more at a stop, and a wire between leaves of these ends.
        self.assertFalse(is_surroundings(ENDS, Net(ends, [("stop", "p"), ("x", "a", "q", "s")], [("b", "s")])))
        self.assertFalse(is_surroundings(ENDS, Net(ends, [("stop", "q"), ("x", "a", "p", "s")], [("b", "s")])))
        fork_at_p = Net(ends, [("x", "p", "s", "t"), ("stop", "s"), ("x", "a", "t", "q"), ("stop", "b")], [])
        self.assertFalse(is_surroundings(ENDS, fork_at_p))
        self.assertFalse(is_surroundings([], Net(["p", "q"], [], [("p", "q")])))
        self.assertFalse(is_surroundings(["b", "a"], LEAD))
        for thing in ANYTHING:
            self.assertIs(is_surroundings(ENDS, thing), False)
        for thing, index in ((None, 0), (["a", "a"], 1), (["x"], 0), ("ab", 0)):
            self.assertEqual(raised(BadEnds, is_surroundings, thing, LEAD).index, index)


class LeadTest(unittest.TestCase):
    def test_lead(self):
        self.assertTrue(lead(ends=ENDS, one=A0, other=B0, shut=[A1, B1]) == LEAD)
        self.assertTrue(lead(ENDS, ("a", [], []), ("b", [], []), []) == Net(["a", "b", "in", "out"], [], [("a", "in"), ("b", "out")]))
        self.assertTrue(lead(["a"], A1, A0, ()) == Net(["a", "in", "out"], [("x", "a", "out", "in")], []))

    def test_names(self):
        for ends, names in ((["a", "b"], ["in", "out"]), (["a", "in"], ["in1", "out1"]), (["out", "a"], ["in1", "out1"]),
                            (["a", "in", "out1"], ["in2", "out2"]), (["a", "in1"], ["in", "out"]), (["in", "in1", "out2"], ["in3", "out3"])):
            net = lead(ends, (ends[0], [], []), (ends[1], [], []), [])
            self.assertEqual(net.ends(), ends + names)
            self.assertTrue(is_surroundings(ends, net))

    def test_by_chance(self):
        for seed in range(80):
            chance = Chance(seed)
            ends = ["a", "b", "c"][:1 + chance.below(3)]
            boxes = some_boxes(chance, ends, 4 + chance.below(8))
            if len(boxes) < 2:
                continue
            net = lead(ends, boxes[0], boxes[1], boxes[2:])
            self.assertTrue(net == net_of(ends + ["in", "out"], [(boxes[0], ("in", [], [])), (boxes[1], ("out", [], []))], boxes[2:]))
            self.assertTrue(is_surroundings(ends, net))
            self.assertIn((boxes[0], ("in", [], [])), pairs(net))
            self.assertIn((boxes[1], ("out", [], [])), pairs(net))
            for box in boxes[2:]:
                self.assertIn(box, shut(net))

    def test_errors(self):
        self.assertEqual(raised(BadEnds, lead, ["a", "a"], None, None, None).index, 1)
        for thing in ANYTHING:
            if thing != ("a", [], []):
                self.assertIs(raised(BadBox, lead, ENDS, thing, None, None).thing, thing)
                self.assertIs(raised(BadBox, lead, ENDS, B0, thing, None).thing, thing)
            if thing not in ([], (), [("a", [], [])]):
                self.assertEqual(raised(BadShut, lead, ENDS, A0, B0, thing).index, 0)
        for box in (A0, ("a", [], []), ("a", [0, 1], [1]), ("a", [], [1]), ("in", [], [])):
            self.assertIs(raised(BadBox, lead, ENDS, A0, box, None).thing, box)
        for boxes, index in (([A1, B1, A0], 2), ([B0], 0), ([A1, A1], 1), ([B1, ("a", [], [1])], 1), ([("in", [], [])], 0), ([("a", [1])], 0)):
            self.assertEqual(raised(BadShut, lead, ENDS, A0, B0, boxes).index, index)


class SurroundedTest(unittest.TestCase):
    def test_surrounded(self):
        net = surrounded(net=CROSSED, surroundings=LEAD)
        self.assertEqual((net.ends(), len(net.cells())), (["in", "out"], 6))
        self.assertTrue(surrounded(WIRE, BARE) == Net(["p", "q"], [], [("p", "q")]))
        # Any net, one with meetings or rings too.
        for one in (OPENING, GROWING):
            self.assertTrue(surrounded(one, LEAD) == plugged(one, LEAD, [("a", "a"), ("b", "b")]))
        around = lead(["a"], A0, A1, [])
        self.assertEqual(surrounded(AWAY, around).ends(), ["in", "out"])

    def test_meeting_out(self):
        """[59]: of an open net this comes to rest at an open net."""
        for seed, net in enumerate(open_nets(100, 3)):
            chance = Chance(seed)
            boxes = some_boxes(chance, net.ends(), 4 + chance.below(8))
            if len(boxes) >= 2:
                found = rest(surrounded(net, lead(net.ends(), boxes[0], boxes[1], boxes[2:])), 10000)
                self.assertTrue(is_open(found[0]))

    def test_errors(self):
        for thing in ANYTHING:
            if not isinstance(thing, Net):
                self.assertIs(raised(BadNet, surrounded, thing, None).thing, thing)
                self.assertIs(raised(BadNet, fares, thing, None, None).thing, thing)
            self.assertIs(raised(BadSurroundings, surrounded, WIRE, thing).thing, thing)
            self.assertIs(raised(BadSurroundings, fares, WIRE, thing, None).thing, thing)
            if not is_number(thing):
                self.assertIs(raised(BadMost, fares, WIRE, LEAD, thing).thing, thing)
        self.assertIs(raised(BadSurroundings, surrounded, AT_REST, LEAD).thing, LEAD)
        other = Net(["b", "a"], [], [("a", "b")])
        self.assertIs(raised(BadSurroundings, fares, other, LEAD, 3).thing, LEAD)


class FaresTest(unittest.TestCase):
    def test_fares(self):
        self.assertEqual(fares(net=WIRE, surroundings=BARE, most=0), "wire")
        self.assertEqual(fares(WIRE, LEAD, 100), "wire")
        self.assertEqual(fares(CROSSED, LEAD, 100), "stops")
        self.assertEqual(fares(CROSSED, BARE, 100), "else")
        self.assertEqual(fares(Net(["a", "b"], [("stop", "a"), ("stop", "b")], []), BARE, 100), "stops")
        # Two stops, but at legs of one fork.
        net = Net(["a", "b"], [("x", "a", "p", "q"), ("stop", "p"), ("stop", "q"), ("stop", "b")], [])
        self.assertEqual(fares(net, BARE, 100), "else")

    def test_loops_aside(self):
        self.assertEqual(fares(Net(["a", "b"], [], [("a", "b"), ("l", "l")]), LEAD, 100), "wire")
        self.assertEqual(fares(Net(["a", "b"], CROSSED.cells(), [("l", "l")]), LEAD, 100), "stops")
        self.assertEqual(fares(OPENING, BARE, 100), "wire")

    def test_closed_parts_are_something(self):
        net = Net(["a", "b"], [("x", "p", "p", "q"), ("stop", "q")], [("a", "b")])
        self.assertEqual(fares(net, BARE, 100), "else")
        stops = Net(["a", "b"], [("x", "p", "p", "q"), ("stop", "q"), ("stop", "a"), ("stop", "b")], [])
        self.assertEqual(fares(stops, BARE, 100), "else")

    def test_most(self):
        self.assertIsNone(fares(GROWING, BARE, 300))
        for net in (WIRE, CROSSED, OPENING):
            number = rest(surrounded(net, LEAD), 1000)[1]
            self.assertIsNotNone(fares(net, LEAD, number))
            self.assertIsNone(fares(net, LEAD, number - 1))

    def test_against_rest(self):
        for seed in range(100):
            chance = Chance(seed)
            net = make_net(chance, 2, chance.below(5))
            around = lead(net.ends(), ("e0", [chance.below(2)], []), ("e1", [], [chance.below(2)]), [])
            found = rest(surrounded(net, around), 60)
            told = fares(net, around, 60)
            if found is None:
                self.assertIsNone(told)
            elif not found[0].cells():
                self.assertEqual(told, "wire")
            else:
                self.assertEqual(told == "stops", found[0].cells() == [("stop", "in"), ("stop", "out")])


if __name__ == "__main__":
    unittest.main()
