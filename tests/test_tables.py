"""[43] to [45]."""

import unittest

from anything import ANYTHING, raised
from chances import Chance, some_boxes, some_table
from samples import AT_REST, HALVES, NOTHING, WIRE, open_nets
from twinforks.errors import BadEnds, BadShut, BadTable
from twinforks.forms import is_box
from twinforks.nets import Net
from twinforks.stills import is_open, pairs, shut, trees
from twinforks.tables import is_table, net_of
from twinforks.tabletexts import table_text

ENDS = ["a", "b"]
A0, A1, B0, B1 = ("a", [0], []), ("a", [1], []), ("b", [], [0]), ("b", [], [1])
NO_TABLES = [None, 3, "", {}, [None], [A0], [(A0,)], [(A0, B0, B1)], [(A0, A0)], [(A0, ("c", [], []))], [(A0, ("a", [], [1]))],
             [(("a", [2], []), B0)], [(("a", [0]), B0)], "ab"]


class IsTableTest(unittest.TestCase):
    def test_is_table(self):
        self.assertIs(is_table(ends=ENDS, table=[(A0, B0)], shut=[A1]), True)
        self.assertTrue(is_table([], [], []))
        self.assertTrue(is_table(("a", "b"), ((list(A0), list(B0)),), (A1, B1)))
        self.assertTrue(is_table(ENDS, [(A0, A1)], []))
        self.assertTrue(is_table(ENDS, [], [("a", [], []), ("b", [], [])]))
        for thing in NO_TABLES:
            self.assertIs(is_table(ENDS, thing, []), False)
        self.assertFalse(is_table(ENDS, [(A0, B0), (A1, ("b", [0], []))], []))
        for thing in (None, [A0], [A1, A1], [("a", [], [])], [("a", [1], []), ("a", [1, 1], [0])], [(A1,)], "a", {0: A1}):
            self.assertFalse(is_table(ENDS, [(A0, B0)], thing))

    def test_any_objects(self):
        for thing in ANYTHING:
            self.assertIs(is_table([], thing, []), thing == [] or thing == ())
            self.assertIs(is_table([], [], thing), thing == [] or thing == ())

    def test_is_just_what_has_a_text(self):
        for seed in range(150):
            chance = Chance(seed)
            boxes = some_boxes(chance, ENDS, 8) + [chance.one_of(some_boxes(chance, ENDS, 4) + [A0])] * chance.below(2)
            boxes = chance.mixed(boxes)
            table = [(boxes[2 * k], boxes[2 * k + 1]) for k in range(chance.below(len(boxes) // 2 + 1))]
            rest = boxes[2 * len(table):]
            try:
                table_text(ENDS, table, rest)
                self.assertTrue(is_table(ENDS, table, rest))
            except (BadTable, BadShut):
                self.assertFalse(is_table(ENDS, table, rest))


def cut(told, end, s, t):
    """The tree of an end by the words of [44], told a dict from boxes to what is there."""
    inside = [box for box in told if box[0] == end and box[1][:len(s)] == s and box[2][:len(t)] == t]
    if (end, s, t) in inside:
        return told[(end, s, t)]
    if not inside:
        return ("stop",)
    kind = "x" if all(len(box[1]) > len(s) for box in inside) else "y"
    halves = [(s + (figure,), t) if kind == "x" else (s, t + (figure,)) for figure in (0, 1)]
    return (kind, *[cut(told, end, *half) for half in halves])


class NetOfTest(unittest.TestCase):
    def test_net_of(self):
        self.assertTrue(net_of(ends=ENDS, table=[(A0, B0)], shut=[]) == HALVES)
        self.assertTrue(net_of([], [], []) == NOTHING)
        self.assertTrue(net_of(ENDS, [(("a", [], []), ("b", [], []))], []) == WIRE)
        self.assertTrue(net_of(["a"], [], []) == Net(["a"], [("stop", "a")], []))
        self.assertTrue(net_of(["a"], [], [("a", [], [])]) == Net(["a"], [("stop", "a")], []))
        self.assertTrue(net_of(["a"], [(A0, A1)], []) == AT_REST)

    def test_shut_boxes_part_too(self):
        net = net_of(ENDS, [], [("a", [0], [1])])
        self.assertEqual(trees(net), [("x", ("y", ("stop",), ("stop",)), ("stop",)), ("stop",)])
        self.assertIn(("a", [0], [1]), shut(net))

    def test_x_where_all_have_longer_rows(self):
        net = net_of(["a", "b"], [(("a", [0], [0]), ("b", [1], [])), (("a", [1], [1]), ("b", [0], [0]))], [])
        self.assertEqual([tree[0] for tree in trees(net)], ["x", "x"])
        net = net_of(["a", "b"], [(("a", [], [0]), ("b", [], [1])), (("a", [1], [1]), ("b", [0], [0]))], [])
        self.assertEqual([tree[0] for tree in trees(net)], ["y", "y"])

    def test_by_chance(self):
        for seed in range(120):
            chance = Chance(seed)
            ends = ["a", "b", "c", "d"][:1 + chance.below(4)]
            table, stopped = some_table(chance, ends, 2 + chance.below(20))
            net = net_of(ends, table, stopped)
            self.assertTrue(is_open(net))
            self.assertEqual((net.ends(), net.loops()), (ends, 0))
            both = table + [(two, one) for one, two in table]
            self.assertEqual(sorted(pairs(net)), sorted(both))
            for box in stopped:
                self.assertIn(box, shut(net))
            told = {(end, tuple(s), tuple(t)): ("to", other) for (end, s, t), other in both}
            told.update({(end, tuple(s), tuple(t)): ("stop",) for end, s, t in stopped})
            self.assertEqual(trees(net), [cut(told, end, (), ()) for end in ends])

    def test_a_net_by_its_table(self):
        """Pairs and shut boxes of an open net tell it but for turns and loops."""
        for net in open_nets(80):
            table = [pair for pair in pairs(net) if pair[0] < pair[1]]
            again = net_of(net.ends(), table, shut(net))
            self.assertEqual((sorted(pairs(again)), sorted(shut(again))), (sorted(pairs(net)), sorted(shut(net))))

    def test_limits(self):
        ends = ["a", "b", "c", "d", "e", "f"]
        boxes = []
        for at in range(100):
            row = [(at >> k) & 1 for k in range(7)]
            boxes.append((ends[at % 6], row + [1] * 5, row[::-1] + [0] * 5))
        table = [(boxes[2 * k], boxes[2 * k + 1]) for k in range(30)]
        net = net_of(ends, table, boxes[60:])
        self.assertEqual(sorted(pairs(net)), sorted(table + [(two, one) for one, two in table]))
        for box in boxes[60:]:
            self.assertIn(box, shut(net))


class ErrorsTest(unittest.TestCase):
    def test_ends(self):
        for work in (is_table, net_of):
            for ends, index in ((None, 0), ("ab", 0), (["a", "a"], 1), (["a", "b", "x"], 2), ([0], 0), (["a", "b", "B"], 2), ({}, 0)):
                self.assertEqual(raised(BadEnds, work, ends, None, None).index, index)

    def test_table_and_shut(self):
        for thing in NO_TABLES:
            self.assertEqual(raised(BadTable, net_of, ENDS, thing, None).index, 0)
        self.assertEqual(raised(BadTable, net_of, ENDS, [(A0, B0), (A1, ("b", [0], []))], None).index, 1)
        self.assertEqual(raised(BadTable, net_of, ENDS, [(A0, B0), (A1, B1), None], None).index, 2)
        self.assertEqual(raised(BadTable, net_of, ENDS, [(A0, ("a", [0, 1], [1]))], []).index, 0)
        for thing in ANYTHING:
            if thing not in ([], ()):
                self.assertEqual(raised(BadTable, net_of, ENDS, thing, None).index, 0)
                if thing != [("a", [], [])]:
                    self.assertEqual(raised(BadShut, net_of, ENDS, [], thing).index, 0)
        self.assertEqual(raised(BadShut, net_of, ENDS, [(A0, B0)], [A1, B1, A0]).index, 2)
        self.assertEqual(raised(BadShut, net_of, ENDS, [(A0, B0)], [A1, ("c", [], [])]).index, 1)
        self.assertEqual(raised(BadShut, net_of, ENDS, [], [A1, ("a", [1, 0], [])]).index, 1)

    def test_boxes_here_are_boxes(self):
        self.assertTrue(is_box(ENDS, A0))


if __name__ == "__main__":
    unittest.main()
