"""[35] to [39]."""

import unittest

import model
from anything import ANYTHING, raised
from chances import Chance, some_row
from samples import AT_REST, AWAY, HALVES, NOTHING, OPENING, RINGS, WIRE, nets, open_nets, still_nets
from twinforks.errors import BadEnd, BadFigures, BadNet, NotStill
from twinforks.forms import is_row
from twinforks.meetings import meetings
from twinforks.nets import Net
from twinforks.stills import box_at, inner, is_open, is_still, opened, pairs, shut, trees
from twinforks.walking import box_walked


class StillTest(unittest.TestCase):
    def test_is_still(self):
        self.assertTrue(is_still(net=NOTHING))
        self.assertTrue(is_still(WIRE))
        self.assertTrue(is_still(RINGS))
        self.assertIs(is_still(OPENING), False)
        self.assertIs(is_still(Net([], [("stop", "a"), ("stop", "a")], [])), False)
        for net in nets(20):
            self.assertFalse(is_still(net))

    def test_inner(self):
        self.assertEqual(inner(net=RINGS), [1, 2, 4, 5, 6])
        self.assertEqual(RINGS.cells()[3], ("stop", "w1"))
        self.assertEqual(inner(WIRE), [])
        self.assertEqual(inner(AWAY), [0])
        # What hangs on a ring stands in no tree, a stop too.
        net = Net(["a"], [("stop", "a"), ("x", "p", "p", "q"), ("y", "q", "r", "s"), ("stop", "r"), ("stop", "s")], [])
        self.assertEqual(inner(net), [1, 2, 3, 4])
        for net in still_nets(150):
            standing = model.in_trees(net)
            self.assertEqual(inner(net), [index for index in range(len(net.cells())) if index not in standing])

    def test_is_open(self):
        self.assertTrue(is_open(net=WIRE))
        self.assertTrue(is_open(NOTHING))
        self.assertTrue(is_open(Net([], [], [("l", "l")])))
        self.assertTrue(is_open(HALVES))
        for net in (RINGS, AWAY, OPENING, Net([], [("x", "p", "p", "q"), ("stop", "q")], [])):
            self.assertIs(is_open(net), False)
        for net in still_nets(100):
            self.assertEqual(is_open(net), inner(net) == [])

    def test_a_walker_at_a_ring_never_comes_out(self):
        for net in still_nets(100, 12):
            if any(leaf == ("ring",) for leaf in trees(net)):
                end = net.ends()[trees(net).index(("ring",))]
                for most in (0, 50, 400):
                    told = box_walked(net, (end, [0] * 40, [1, 0] * 20), most)
                    self.assertIn(told, (None, ("asks", "x"), ("asks", "y")))


class TreesTest(unittest.TestCase):
    def test_trees(self):
        self.assertEqual(trees(net=WIRE), [("to", ("b", [], [])), ("to", ("a", [], []))])
        self.assertEqual(trees(NOTHING), [])
        self.assertEqual(trees(AT_REST), [("x", ("to", ("a", [1], [])), ("to", ("a", [0], [])))])
        self.assertEqual(trees(AWAY), [("ring",)])
        self.assertEqual(trees(RINGS), [("x", ("stop",), ("ring",)), ("ring",), ("ring",)])
        self.assertEqual(trees(Net(["a"], [("stop", "a")], [])), [("stop",)])
        net = Net(["a", "b", "c"], [("y", "b", "p", "q"), ("x", "q", "r", "a"), ("y", "r", "c", "p")], [])
        self.assertEqual(trees(net), [
            ("to", ("b", [1], [1])),
            ("y", ("to", ("b", [0], [1, 1])), ("x", ("y", ("to", ("c", [], [])), ("to", ("b", [], [0]))), ("to", ("a", [], [])))),
            ("to", ("b", [0], [1, 0]))])

    def test_against_the_model(self):
        rings = 0
        for net in still_nets(200) + open_nets(60):
            boxes = model.leaf_boxes(net)
            told = trees(net)
            self.assertEqual(told, [model.tree(net, end, boxes) for end in net.ends()])
            rings += str(told).count("ring")
            led = [(box, boxes[model.across(net, endpoint)]) for endpoint, box in boxes.items() if model.across(net, endpoint) in boxes]
            self.assertEqual(pairs(net), led)
            self.assertEqual(shut(net), [box for endpoint, box in boxes.items() if model.across(net, endpoint) not in boxes])
        self.assertGreater(rings, 20)

    def test_pairs_and_shut(self):
        self.assertEqual(pairs(net=AT_REST), [(("a", [0], []), ("a", [1], [])), (("a", [1], []), ("a", [0], []))])
        self.assertEqual(shut(net=AT_REST), [])
        self.assertEqual((pairs(RINGS), shut(RINGS)), ([], [("a", [0], []), ("a", [1], []), ("b", [], []), ("c", [], [])]))
        self.assertEqual((pairs(NOTHING), shut(NOTHING)), ([], []))

    def test_addresses_come_out_so(self):
        """[37]: as box_walked tells of each leaf's box, and of each within it."""
        for seed, net in enumerate(open_nets(60) + still_nets(100)):
            chance = Chance(seed)
            for (end, s, t), (other, u, v) in pairs(net):
                more_s, more_t = some_row(chance, 3), some_row(chance, 3)
                self.assertEqual(box_walked(net, (end, s + more_s, t + more_t), 400), ("out", (other, u + more_s, v + more_t)))
            for end, s, t in shut(net):
                self.assertIn(box_walked(net, (end, s, t), 400), (("stopped",), None, ("asks", "x"), ("asks", "y")))


class BoxAtTest(unittest.TestCase):
    def test_box_at(self):
        self.assertEqual(box_at(net=WIRE, end="a", s=[1], t=[0]), ("leaf", ("a", [], []), ("b", [1], [0])))
        self.assertEqual(box_at(AT_REST, "a", [], [1, 1]), ("cut", "x"))
        self.assertEqual(box_at(AT_REST, "a", (1, 1), ()), ("leaf", ("a", [1], []), ("a", [0, 1], [])))
        self.assertEqual(box_at(HALVES, "a", [1, 0], [1]), ("leaf", ("a", [1], []), None))
        self.assertEqual(box_at(RINGS, "a", [1], []), ("leaf", ("a", [1], []), None))
        self.assertEqual(box_at(RINGS, "b", [], []), ("leaf", ("b", [], []), None))

    def test_against_the_model(self):
        cut = 0
        for seed, net in enumerate(open_nets(60) + still_nets(100)):
            chance = Chance(seed)
            for end in net.ends():
                s, t = some_row(chance, 3), some_row(chance, 3)
                told = box_at(net, end, s, t)
                goal = model.goes(net, (end, s, t))
                if told[0] == "cut":
                    self.assertEqual(goal, (end, s, t))
                    fare = box_walked(net, (end, s, t), 400)
                    self.assertEqual(fare, ("asks", told[1]))
                    cut += 1
                else:
                    self.assertEqual((told[0], told[2]), ("leaf", goal))
                    self.assertIn(told[1], list(model.leaf_boxes(net).values()))
                    self.assertEqual((told[1][1], told[1][2]), (s[:len(told[1][1])], t[:len(told[1][2])]))
        self.assertGreater(cut, 20)


class OpenedTest(unittest.TestCase):
    def test_opened(self):
        self.assertTrue(opened(net=RINGS) == Net(["a", "b", "c"], [("x", "a", "p", "q"), ("stop", "p"), ("stop", "q"), ("stop", "b"), ("stop", "c")],
                                                 [("l", "l")]))
        self.assertTrue(opened(AWAY) == Net(["a"], [("stop", "a")], []))
        for net in (WIRE, AT_REST, HALVES, NOTHING, Net([], [], [("l", "l"), ("m", "m")])):
            self.assertTrue(opened(net) == net)

    def test_what_is_left(self):
        for net in still_nets(200):
            left = opened(net)
            self.assertTrue(is_open(left))
            self.assertEqual((left.ends(), left.loops(), pairs(left), shut(left)), (net.ends(), net.loops(), pairs(net), shut(net)))
            self.assertEqual(str(trees(left)), str(trees(net)).replace("ring", "stop"))
            if is_open(net):
                self.assertTrue(left == net)


class ErrorsTest(unittest.TestCase):
    def test_no_net(self):
        for thing in ANYTHING:
            if not isinstance(thing, Net):
                for work in (is_still, inner, is_open, trees, pairs, shut, opened):
                    self.assertIs(raised(BadNet, work, thing).thing, thing)
                self.assertIs(raised(BadNet, box_at, thing, None, None, None).thing, thing)

    def test_not_still(self):
        for net in nets(40):
            first = meetings(net)[0]
            for work in (inner, trees, pairs, shut, opened):
                self.assertEqual(raised(NotStill, work, net).pair, first)
            self.assertEqual(raised(NotStill, box_at, net, None, None, None).pair, first)
        net = Net([], [("stop", "a"), ("x", "b", "c", "c"), ("stop", "a"), ("y", "b", "d", "d")], [])
        self.assertEqual(raised(NotStill, trees, net).pair, (0, 1))
        self.assertIs(type(raised(NotStill, trees, net).pair), tuple)

    def test_box_at(self):
        for thing in ANYTHING:
            if thing != "a":
                self.assertIs(raised(BadEnd, box_at, HALVES, thing, None, None).thing, thing)
            if not is_row(thing):
                self.assertIs(raised(BadFigures, box_at, HALVES, "a", thing, None).thing, thing)
                self.assertIs(raised(BadFigures, box_at, HALVES, "a", [], thing).thing, thing)
        self.assertEqual(raised(BadEnd, box_at, HALVES, "w1", [], []).thing, "w1")


if __name__ == "__main__":
    unittest.main()
