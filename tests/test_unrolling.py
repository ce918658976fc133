"""[12]."""

import unittest

from anything import ANYTHING, raised
from chances import Chance, make_plan
from twinforks.errors import BadPlan
from twinforks.nets import Net
from twinforks.plans import Plan
from twinforks.unrolling import unrolled, unrolled_counts


def by_hand(plan):
    """The net of a plan by the words of [12]: uses put in one by one, ends and wires made one by joins."""
    parts = {name: (ends, items) for name, ends, items in plan.parts()}
    left = list(plan.body())
    cells, joins, names = [], [], {}
    while left:
        item = left.pop()
        if item[0] == "use":
            copy = {}
            ends, items = parts[item[1]]
            left.extend(called(inner, copy, names) for inner in items)
            joins.extend((copy[end], wire) for end, wire in zip(ends, item[2]))
        elif item[0] == "loop":
            name = f"i{len(names)}"
            names[name] = True
            joins.append((name, name))
        elif item[0] == "join":
            joins.append(item[1:])
        else:
            cells.append(item)
    return Net(plan.ends(), cells, joins)


def called(item, copy, names):
    """An item of a part whose wires are called by new names in this copy."""
    wires = item[2] if item[0] == "use" else item[1:]
    for wire in wires:
        if wire not in copy:
            copy[wire] = f"i{len(names)}"
            names[copy[wire]] = True
    if item[0] == "use":
        return item[0], item[1], [copy[wire] for wire in wires]
    return item[0], *[copy[wire] for wire in wires]


class UnrolledTest(unittest.TestCase):
    def test_by_name(self):
        self.assertTrue(unrolled(plan=Plan([], [], [])) == Net([], [], []))
        self.assertEqual(unrolled_counts(plan=Plan([], [], [])), (0, 0, 0))

    def test_a_plan_without_parts(self):
        plan = Plan([], ["a", "b"], [("x", "a", "p", "q"), ("join", "p", "b"), ("loop",), ("stop", "q"), ("join", "l", "l")])
        self.assertTrue(unrolled(plan) == Net(["a", "b"], [("x", "a", "b", "q"), ("stop", "q")], [("l", "l"), ("m", "m")]))
        self.assertEqual(unrolled_counts(plan), (1, 0, 1))

    def test_a_part_used_twice(self):
        part = ("p", ["a", "b"], [("x", "a", "c", "c"), ("y", "b", "d", "d"), ("loop",)])
        plan = Plan([part], ["a"], [("use", "p", ["a", "c"]), ("use", "p", ["c", "d"]), ("stop", "d")])
        self.assertTrue(unrolled(plan) == Net(["a"], [
            ("x", "a", "c", "c"), ("y", "b", "d", "d"), ("x", "b", "e", "e"), ("y", "f", "g", "g"), ("stop", "f")],
            [("m", "m"), ("n", "n")]))
        self.assertEqual(unrolled_counts(plan), (2, 2, 1))

    def test_ends_made_one(self):
        wire = ("p", ["a", "b"], [("join", "a", "b")])
        self.assertEqual(unrolled(Plan([wire], [], [("use", "p", ["c", "c"])])).loops(), 1)
        self.assertEqual(unrolled(Plan([wire], ["a", "b"], [("use", "p", ["a", "b"])])).joins(), [("a", "b")])
        fork = ("p", ["a", "b"], [("x", "a", "b", "c"), ("stop", "c")])
        self.assertEqual(unrolled(Plan([fork], [], [("use", "p", ["c", "c"])])).cells(),
                         Net([], [("x", "a", "a", "c"), ("stop", "c")], []).cells())

    def test_against_uses_put_in_by_hand(self):
        for seed in range(200):
            plan = make_plan(Chance(seed), 3)
            net = unrolled(plan)
            self.assertTrue(net == by_hand(plan), seed)
            kinds = [cell[0] for cell in net.cells()]
            self.assertEqual(unrolled_counts(plan), (kinds.count("x"), kinds.count("y"), kinds.count("stop")), seed)

    def test_plans_far_greater_than_could_be_unrolled(self):
        parts = [("p0", ["a", "b"], [("x", "a", "b", "c"), ("stop", "c")])]
        for k in range(1, 40):
            wires = [f"v{j}" for j in range(21)]
            items = [("use", f"p{k - 1}", [wires[j], wires[j + 1]]) for j in range(20)]
            parts.append((f"p{k}", ["v0", "v20"], items))
        plan = Plan(parts, ["a", "b"], [("use", "p39", ["a", "c"]), ("y", "c", "b", "d"), ("stop", "d")])
        self.assertEqual(unrolled_counts(plan), (20 ** 39, 1, 20 ** 39 + 1))

    def test_great_parts_that_are_not_used(self):
        parts = [("p0", [], [("x", "a", "a", "b"), ("stop", "b")])]
        parts.extend((f"p{k}", [], [("use", f"p{k - 1}", [])] * 20) for k in range(1, 10))
        net = unrolled(Plan(parts, [], [("use", "p1", [])]))
        self.assertEqual(len(net.cells()), 40)

    def test_many_uses_of_nothing(self):
        parts = [("p0", ["a", "b"], [("join", "a", "b")])]
        parts.append(("p1", [], [("use", "p0", ["c", "c"])]))
        parts.extend((f"p{k}", [], [("use", f"p{k - 1}", [])] * 20) for k in range(2, 5))
        self.assertEqual(unrolled(Plan(parts, [], [("use", "p3", []), ("use", "p4", [])])).loops(), 8400)
        parts = [("p0", [], [])]
        parts.extend((f"p{k}", [], [("use", f"p{k - 1}", [])] * 20) for k in range(1, 10))
        self.assertTrue(unrolled(Plan(parts, [], [("use", "p9", [])] * 20)) == Net([], [], []))

    def test_two_thousand_cells(self):
        parts = [("p0", ["a", "b"], [("x", "a", "b", "c"), ("stop", "c")])]
        wires = [f"v{j}" for j in range(11)]
        for k in range(1, 4):
            items = [("use", f"p{k - 1}", [wires[j], wires[j + 1]]) for j in range(10)]
            parts.append((f"p{k}", ["v0", "v10"], items))
        net = unrolled(Plan(parts, ["a", "b"], [("use", "p3", ["a", "b"])]))
        self.assertEqual(len(net.cells()), 2000)
        self.assertEqual(net.cells()[:4], [("x", "a", "w1", "w2"), ("x", "w3", "b", "w4"), ("x", "w1", "w5", "w6"), ("stop", "w2")])
        self.assertEqual(net.wires()[-1], "w1999")

    def test_errors(self):
        for thing in ANYTHING:
            if not isinstance(thing, Plan):
                self.assertIs(raised(BadPlan, unrolled, thing).thing, thing)
                self.assertIs(raised(BadPlan, unrolled_counts, thing).thing, thing)


if __name__ == "__main__":
    unittest.main()
