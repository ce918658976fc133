"""The examples of the document, as they stand: [17], [25], [34], [42], [50], [57], [63], [68], [78], [83], [91]; and the limits of [17]."""

import unittest

from chances import Chance, make_net
from twinforks.ahead import count_ahead, met_ahead, sorts_ahead
from twinforks.askerpapers import is_asker_paper, never_rests
from twinforks.asking import asked
from twinforks.audits import audit_pairing, audit_rest
from twinforks.derivations import derivation, is_derivation
from twinforks.errors import InUse
from twinforks.machinenets import net_of_machine
from twinforks.machines import Machine, machine_run
from twinforks.meanings import meaning
from twinforks.meetings import meetings, met, sort_of
from twinforks.nets import Net
from twinforks.nevers import is_never
from twinforks.partings import compared, parting_wrong
from twinforks.plans import Plan
from twinforks.plantexts import net_text, plan_fault, plan_text, read_net, read_plan
from twinforks.plugging import closed, plugged
from twinforks.programtexts import read_program
from twinforks.resting import rest, rest_sorts
from twinforks.rounds import schedule
from twinforks.sessions import Session
from twinforks.shares import share
from twinforks.steps import stepped
from twinforks.stills import box_at, is_open, pairs, shut, trees
from twinforks.surroundings import fares, lead
from twinforks.tables import is_table, net_of
from twinforks.unrolling import unrolled, unrolled_counts
from twinforks.walking import box_walked, walk, way


class ExamplesTest(unittest.TestCase):
    def test_nets(self):
        net = Net(["a", "b"], [("x", "w", "a", "c"), ("x", "w", "b", "c")], [])
        self.assertEqual(net.cells(), [("x", "w1", "a", "w2"), ("x", "w1", "b", "w2")])
        self.assertEqual(net.loops(), 0)
        text = "net a b\nx a p"
        self.assertEqual(plan_fault(text), len(text))
        self.assertEqual(plan_fault(text + "\n"), len(text))

    def test_meetings(self):
        net = Net(["a", "b"], [("x", "w", "a", "c"), ("x", "w", "b", "c")], [])
        self.assertEqual(meetings(net), [(0, 1)])
        self.assertEqual(sort_of(net, (0, 1)), ("x", "x"))
        behind = met(net, (0, 1))
        self.assertEqual((behind.cells(), behind.joins(), behind.loops(), meetings(behind)), ([], [("a", "b")], 1, []))

    def test_never_at_rest(self):
        net = Net(["a", "b"], [("x", "w", "v", "a"), ("y", "w", "v", "b")], [])
        self.assertIsNone(rest(net, 200))
        for _ in range(30):
            self.assertEqual(len(meetings(net)), 1)
            net = met(net, meetings(net)[0])

    def test_three_meetings(self):
        net = Net([], [("x", "w", "a", "a"), ("y", "w", "b", "b")], [])
        behind, number = rest(net, 3)
        self.assertEqual((number, behind.cells(), behind.loops()), (3, [], 1))
        self.assertEqual([len(lot) for lot in schedule(net, 3)], [1, 2])
        self.assertEqual(rest_sorts(net, 3), {("x", "x"): 1, ("x", "y"): 1, ("y", "y"): 1})

    def test_walks(self):
        net = Net(["a"], [("x", "a", "p", "p")], [])
        self.assertEqual(walk(net, "a", ([], [0]), ([], [0, 1]), 2000), ("out", "a", ([1], [0]), ([], [0, 1]), 2))
        self.assertEqual(way(net, "a", ([], [0]), ([], [0, 1]), 2000), [(0, "take", 0), (0, "put", 1)])
        self.assertEqual(box_walked(net, ("a", [], []), 2000), ("asks", "x"))
        self.assertEqual(asked(net, "a", 400), ("x", ("to", ("a", [1], [])), ("to", ("a", [0], []))))
        net = Net(["a"], [("x", "p", "p", "a")], [])
        self.assertEqual((meetings(net), is_open(net)), ([], False))
        self.assertIsNone(walk(net, "a", ([], [0]), ([], [0]), 2000))
        self.assertEqual(way(Net(["a", "b"], [], [("a", "b")]), "a", ([], [0]), ([], [0]), 0), [])
        self.assertTrue(is_never(net, (("a", [], []), [(0, "put", 1)], [(0, "put", 0)])))

    def test_boxes(self):
        net = Net(["a", "b"], [("x", "a", "p", "q"), ("y", "b", "p", "r"), ("stop", "q"), ("stop", "r")], [])
        self.assertEqual(trees(net), [("x", ("to", ("b", [], [0])), ("stop",)), ("y", ("to", ("a", [0], [])), ("stop",))])
        self.assertEqual(pairs(net), [(("a", [0], []), ("b", [], [0])), (("b", [], [0]), ("a", [0], []))])
        self.assertEqual(shut(net), [("a", [1], []), ("b", [], [1])])
        self.assertEqual(box_at(net, "b", [1], []), ("cut", "y"))
        self.assertEqual(box_at(net, "a", [0, 1], [1]), ("leaf", ("a", [0], []), ("b", [1], [0, 1])))
        self.assertEqual(share(net, "a", "b"), (1, 1))
        self.assertTrue(net_of(["a", "b"], [(("a", [0], []), ("b", [], [0]))], []) == net)
        self.assertFalse(is_table(["a", "b"], [(("a", [0], []), ("b", [], [0])), (("a", [], [1]), ("b", [], [1]))], []))
        self.assertFalse(is_table(["a", "b"], [(("a", [0], []), ("a", [], [1]))], []))

    def test_wires_plugged(self):
        wires = plugged(Net(["a", "b"], [], [("a", "b")]), Net(["c", "d"], [], [("c", "d")]), [("b", "c")])
        self.assertEqual((wires.ends(), wires.cells(), wires.joins(), wires.loops()), (["a", "d"], [], [("a", "d")], 0))
        ring = closed(wires, [("a", "d")])
        self.assertEqual((ring.ends(), ring.cells(), ring.joins(), ring.loops()), ([], [], [], 1))

    def test_derivations(self):
        wire = Net(["a", "b"], [], [("a", "b")])
        forks = Net(["a", "b"], [("x", "a", "p", "q"), ("x", "b", "p", "q")], [])
        self.assertTrue(is_derivation(wire, forks, [("grow", "x", "a")]))
        self.assertTrue(is_derivation(forks, wire, [("shrink", 0)]))
        self.assertTrue(is_derivation(wire, forks, derivation(wire, forks)))
        net = Net(["a", "c", "d", "e", "f"], [("y", "a", "p", "q"), ("x", "p", "c", "d"), ("x", "q", "e", "f")], [])
        turned = Net(["a", "c", "d", "e", "f"], [("x", "a", "p", "q"), ("y", "p", "c", "e"), ("y", "q", "d", "f")], [])
        self.assertTrue(stepped(net, ("turn", 0)) == turned)

    def test_compared(self):
        wire = Net(["a", "b"], [], [("a", "b")])
        crossed = Net(["a", "b"], [("x", "a", "p", "q"), ("x", "b", "q", "p")], [])
        around = lead(["a", "b"], ("a", [0], []), ("b", [0], []), [("a", [1], []), ("b", [1], [])])
        self.assertTrue(around == Net(["a", "b", "in", "out"], [("x", "a", "in", "s"), ("x", "b", "out", "t"), ("stop", "s"), ("stop", "t")], []))
        self.assertEqual((fares(wire, around, 2000), fares(crossed, around, 2000)), ("wire", "stops"))
        told = compared(wire, crossed, 2000)
        self.assertEqual(told[0], "parted")
        self.assertIsNone(parting_wrong(wire, crossed, told[1:]))

    def test_askers(self):
        net = Net([], [("x", "w", "a", "a"), ("y", "w", "b", "b")], [])
        self.assertEqual((met_ahead(net, 0, 2000), met_ahead(net, 1, 2000)), ([1, 0, 0], [0, 1, 1]))
        self.assertEqual(sorts_ahead(net, 2000), {("x", "x"): 1, ("x", "y"): 1, ("y", "y"): 1})
        self.assertEqual(count_ahead(net, 2000), 3)
        net = Net(["a", "b"], [("x", "w", "v", "a"), ("y", "w", "v", "b")], [])
        self.assertTrue(is_asker_paper(net, (0, [], [(1, "meet", 0), (0, "put", 0)])))
        self.assertIsNone(rest(net, 2000))
        self.assertIsNotNone(never_rests(net, 12))


class LimitsTest(unittest.TestCase):
    def test_eight_ends_eighty_cells_eighty_joins(self):
        for seed in range(10):
            net = make_net(Chance(seed), 8, 80, 80)
            self.assertEqual(len(net.ends()), 8)
            self.assertGreaterEqual(len(net.cells()), 80)
            self.assertTrue(read_net(net_text(net)) == net)

    def test_more_than_that(self):
        net = make_net(Chance(3), 30, 300, 100)
        self.assertTrue(read_net(net_text(net)) == net)

    def test_a_thousand_loops(self):
        net = Net([], [], [(f"l{k}", f"l{k}") for k in range(1000)])
        self.assertEqual(net.loops(), 1000)
        self.assertEqual(net_text(net), "net\n" + "loop\n" * 1000)
        self.assertEqual(read_net(net_text(net)).loops(), 1000)
        ring = [(f"l{k}", f"l{(k + 1) % 1000}") for k in range(1000)]
        self.assertEqual(Net([], [], ring).loops(), 1)

    def test_ten_parts_of_twenty_items(self):
        parts = []
        for k in range(10):
            items = [("use", f"p{k - 1}", ["v0", "v1", "v2"])] if k else [("x", "v0", "v1", "v2")]
            items += [("stop", "v0"), ("join", "v1", "v2")] + [("loop",)] * 17
            parts.append((f"p{k}", ["a", "b", "c"], items[:1] + [("join", "v0", "a"), ("join", "v1", "b"), ("join", "c", "v2")] + [("loop",)] * 16))
        plan = Plan(parts, ["a", "b", "c"], [("use", "p9", ["a", "b", "c"])])
        self.assertEqual(unrolled_counts(plan), (1, 0, 0))
        self.assertEqual((unrolled(plan).cells(), unrolled(plan).loops()), ([("x", "a", "b", "c")], 160))
        self.assertTrue(read_plan(plan_text(plan)) == plan)

    def test_texts_of_ten_thousand_signs(self):
        net = make_net(Chance(5), 8, 800, 0)
        text = net_text(net)
        self.assertGreater(len(text), 9000)
        self.assertIsNone(plan_fault(text))
        self.assertTrue(read_net(text) == net)

    def test_programs_and_machines(self):
        self.assertEqual(meaning(read_program("by x (nothing | nothing) to y"), 0), [([0], [], ("out", [], [0])), ([1], [], ("out", [], [1]))])
        machine = Machine([("a", "stay"), ("b", "left"), ("c", "stay")], [("a", 0, 0, "b"), ("b", 1, 1, "b"), ("b", 0, 0, "c")])
        piles = (([], [0]), ([0, 1], [0]))
        self.assertEqual(machine_run(machine, ([1], [0]), ([], [0]), 3), ("out", *piles, 3))
        self.assertEqual(walk(net_of_machine(machine), "in", ([1], [0]), ([], [0]), 10), ("out", "out", *piles, 10))

    def test_audits(self):
        self.assertIsNone(audit_rest("net a b\nx w a c\nx w b c\n", "0 1\n", "net a b\njoin a b\nloop\n"))
        self.assertEqual(audit_rest("net a b\nx w a c\nx w b c\n", "0 1\n", "net a b\njoin a b\n"), ("end", 2))
        self.assertIsNone(audit_pairing("net a\nx a p p\n", "a 0 - to a 1 -\n", "0 take 0\n0 put 1\n"))
        self.assertEqual(audit_pairing("net a\nx a p p\n", "a 0 - to a 1 -\n", "0 take 0\n0 put 0\n"), ("line", 2, 1))

    def test_a_session(self):
        session = Session()
        for deed in (("fork", "x", "p", "a", "b"), ("fork", "x", "q", "c", "d"), ("tie", "p", "q")):
            session.do(deed)
        self.assertEqual((session.net().ends(), session.answer(("meetings",))), (["a", "b", "c", "d"], 1))
        does = ("does", [(("a", [], []), ("c", [], [])), (("b", [], []), ("d", [], []))])
        session.do(("watch", ("meetings",)))
        session.do(("hold", does))
        self.assertEqual(session.watched(), [(("meetings",), 1, False), (does, True, True)])
        self.assertEqual(session.would(("rest",)), [(("meetings",), 1, 0)])
        with self.assertRaises(InUse) as caught:
            session.do(("tie", "a", "b"))
        self.assertEqual(caught.exception.question, does)


if __name__ == "__main__":
    unittest.main()
