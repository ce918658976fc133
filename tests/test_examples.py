"""The examples of [17], [25] and of [34], as they stand, and the limits of [17]."""

import unittest

from chances import Chance, make_net
from twinforks.meetings import meetings, met, sort_of
from twinforks.nets import Net
from twinforks.plans import Plan
from twinforks.plantexts import net_text, plan_fault, plan_text, read_net, read_plan
from twinforks.resting import rest, rest_sorts
from twinforks.rounds import schedule
from twinforks.unrolling import unrolled, unrolled_counts
from twinforks.walking import box_walked, walk, way


class ExamplesTest(unittest.TestCase):
    def test_nets(self):
        net = Net(["a", "b"], [("x", "w", "a", "c"), ("x", "w", "b", "c")], [])
        self.assertEqual(net.cells(), [("x", "w1", "a", "w2"), ("x", "w1", "b", "w2")])
        self.assertEqual(net.loops(), 0)
        text = "net a b\nx a p"
        self.assertEqual(plan_fault(text), len(text))
        self.assertEqual(plan_fault(text + "\n"), len(text))

    def test_meetings(self):
        net = Net(["a", "b"], [("x", "w", "a", "c"), ("x", "w", "b", "c")], [])
        self.assertEqual(meetings(net), [(0, 1)])
        self.assertEqual(sort_of(net, (0, 1)), ("x", "x"))
        behind = met(net, (0, 1))
        self.assertEqual((behind.cells(), behind.joins(), behind.loops(), meetings(behind)), ([], [("a", "b")], 1, []))

    def test_never_at_rest(self):
        net = Net(["a", "b"], [("x", "w", "v", "a"), ("y", "w", "v", "b")], [])
        self.assertIsNone(rest(net, 200))
        for _ in range(30):
            self.assertEqual(len(meetings(net)), 1)
            net = met(net, meetings(net)[0])

    def test_three_meetings(self):
        net = Net([], [("x", "w", "a", "a"), ("y", "w", "b", "b")], [])
        behind, number = rest(net, 3)
        self.assertEqual((number, behind.cells(), behind.loops()), (3, [], 1))
        self.assertEqual([len(lot) for lot in schedule(net, 3)], [1, 2])
        self.assertEqual(rest_sorts(net, 3), {("x", "x"): 1, ("x", "y"): 1, ("y", "y"): 1})

    def test_walks(self):
        net = Net(["a"], [("x", "a", "p", "p")], [])
        self.assertEqual(walk(net, "a", ([], [0]), ([], [0, 1]), 2000), ("out", "a", ([1], [0]), ([], [0, 1]), 2))
        self.assertEqual(way(net, "a", ([], [0]), ([], [0, 1]), 2000), [(0, "take", 0), (0, "put", 1)])
        self.assertEqual(box_walked(net, ("a", [], []), 2000), ("asks", "x"))
        net = Net(["a"], [("x", "p", "p", "a")], [])
        self.assertEqual(meetings(net), [])
        self.assertIsNone(walk(net, "a", ([], [0]), ([], [0]), 2000))


class LimitsTest(unittest.TestCase):
    def test_eight_ends_eighty_cells_eighty_joins(self):
        for seed in range(10):
            net = make_net(Chance(seed), 8, 80, 80)
            self.assertEqual(len(net.ends()), 8)
            self.assertGreaterEqual(len(net.cells()), 80)
            self.assertTrue(read_net(net_text(net)) == net)

    def test_more_than_that(self):
        net = make_net(Chance(3), 30, 300, 100)
        self.assertTrue(read_net(net_text(net)) == net)

    def test_a_thousand_loops(self):
        net = Net([], [], [(f"l{k}", f"l{k}") for k in range(1000)])
        self.assertEqual(net.loops(), 1000)
        self.assertEqual(net_text(net), "net\n" + "loop\n" * 1000)
        self.assertEqual(read_net(net_text(net)).loops(), 1000)
        ring = [(f"l{k}", f"l{(k + 1) % 1000}") for k in range(1000)]
        self.assertEqual(Net([], [], ring).loops(), 1)

    def test_ten_parts_of_twenty_items(self):
        parts = []
        for k in range(10):
            items = [("use", f"p{k - 1}", ["v0", "v1", "v2"])] if k else [("x", "v0", "v1", "v2")]
            items += [("stop", "v0"), ("join", "v1", "v2")] + [("loop",)] * 17
            parts.append((f"p{k}", ["a", "b", "c"], items[:1] + [("join", "v0", "a"), ("join", "v1", "b"), ("join", "c", "v2")] + [("loop",)] * 16))
        plan = Plan(parts, ["a", "b", "c"], [("use", "p9", ["a", "b", "c"])])
        self.assertEqual(unrolled_counts(plan), (1, 0, 0))
        self.assertEqual((unrolled(plan).cells(), unrolled(plan).loops()), ([("x", "a", "b", "c")], 160))
        self.assertTrue(read_plan(plan_text(plan)) == plan)

    def test_texts_of_ten_thousand_signs(self):
        net = make_net(Chance(5), 8, 800, 0)
        text = net_text(net)
        self.assertGreater(len(text), 9000)
        self.assertIsNone(plan_fault(text))
        self.assertTrue(read_net(text) == net)


if __name__ == "__main__":
    unittest.main()
