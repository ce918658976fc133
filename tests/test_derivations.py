"""[54] to [56]."""

import unittest

from anything import ANYTHING, raised
from chances import Chance, some_table
from samples import AT_REST, AWAY, CROSSED, HALVES, NOTHING, OPENING, RINGS, WIRE, nets, open_nets, wander
from twinforks.derivations import derivation, derivation_wrong, is_derivation
from twinforks.errors import BadNet, BadOther, NotOpen, NotStill
from twinforks.formrows import alike, form
from twinforks.meetings import meetings
from twinforks.nets import Net
from twinforks.plugging import reordered
from twinforks.stills import inner, pairs
from twinforks.steps import stepped, steps_at
from twinforks.tables import net_of

DOUBLE = Net(["a", "b"], [("x", "a", "p", "q"), ("x", "b", "p", "q")], [])
LOOPS = Net(["a", "b"], [], [("a", "b"), ("l", "l"), ("m", "m")])


def cut_net(ends, table, first):
    """A net of a table; first tells for each end the kind by which it is cut wherever no told box is cut so."""
    there = {}
    for number, (one, other) in enumerate(table):
        for end, s, t in (one, other):
            there[(end, tuple(s), tuple(t))] = f"j{number}"
    cells, joins = [], []

    def go_down(wire, end, s, t):
        inside = [box for box in there if box[0] == end and box[1][:len(s)] == s and box[2][:len(t)] == t]
        if (end, s, t) in inside:
            joins.append((wire, there[(end, s, t)]))
        elif not inside:
            cells.append(("stop", wire))
        else:
            by_y = all(len(box[2]) > len(t) for box in inside)
            by_x = all(len(box[1]) > len(s) for box in inside)
            kind = first[end] if by_x and by_y else "x" if by_x else "y"
            legs = [f"v{len(cells)}", f"u{len(cells)}"]
            cells.append((kind, wire, *legs))
            for figure in (0, 1):
                go_down(legs[figure], end, s + (figure,) * (kind == "x"), t + (figure,) * (kind == "y"))

    for end in ends:
        go_down(end, end, (), ())
    return Net(ends, cells, joins)


def done(net, steps):
    for step in steps:
        net = stepped(net, step)
    return net


class DerivationTest(unittest.TestCase):
    def test_derivation(self):
        self.assertEqual(derivation(net=WIRE, other=DOUBLE), [("grow", "x", "a")])
        self.assertEqual(derivation(DOUBLE, WIRE), [("shrink", 0)])
        self.assertEqual(derivation(WIRE, WIRE), [])
        self.assertEqual(derivation(NOTHING, NOTHING), [])
        self.assertIsNone(derivation(WIRE, CROSSED))
        self.assertIsNone(derivation(AT_REST, Net(["a"], [("stop", "a")], [])))

    def test_loops(self):
        self.assertEqual(derivation(WIRE, LOOPS), [("loop",), ("loop",)])
        self.assertEqual(derivation(LOOPS, WIRE), [("unloop",), ("unloop",)])
        self.assertTrue(done(LOOPS, derivation(LOOPS, DOUBLE)) == DOUBLE)

    def test_cut_otherwise(self):
        # What is cut by x and then by y, and what is cut by y and then by x, four boxes each, three of them stopped.
        boxes = [([0], [0]), ([0], [1]), ([1], [0]), ([1], [1])]
        one = Net(["a", "b", "c", "d", "e"], [("x", "a", "p", "q"), ("y", "p", "b", "c"), ("y", "q", "d", "e")], [])
        two = Net(["a", "b", "c", "d", "e"], [("y", "a", "p", "q"), ("x", "p", "b", "d"), ("x", "q", "c", "e")], [])
        self.assertEqual([pair[0][1:] for pair in pairs(one)[:4]], boxes)
        self.assertTrue(done(one, derivation(one, two)) == two)
        self.assertTrue(done(two, derivation(two, one)) == one)
        three = Net(["a", "b", "c", "d", "e"], [("y", "a", "p", "q"), ("x", "p", "b", "d"), ("x", "q", "e", "c")], [])
        self.assertIsNone(derivation(one, three))

    def test_trees_that_no_shrink_makes_less(self):
        """One net cut by x ahead of y, another by y ahead of x, each of their leaves led elsewhere."""
        names = [f"e{k}" for k in range(4)]
        table = [(("e0", [0], [0]), ("e1", [1], [])), (("e0", [0], [1]), ("e1", [0], [1])), (("e0", [1], [0]), ("e2", [], [])),
                 (("e0", [1], [1, 0]), ("e3", [1, 1], [0]))]
        shut = [("e0", [1], [1, 1]), ("e1", [0], [0]), ("e3", [1, 1], [1])]
        one = net_of(names, table, shut)
        two = stepped(one, ("turn", 0))
        self.assertTrue(done(one, derivation(one, two)) == two)

    def test_cut_by_y_ahead_of_x(self):
        """Nets of one table, the one cut by x wherever that can be, the other by y; what is not told is a stop in both."""
        unlike = 0
        for seed in range(120):
            chance = Chance(seed)
            ends = ["a", "b", "c"][:1 + chance.below(3)]
            table, shut = some_table(chance, ends, 4 + chance.below(14))
            one, two = net_of(ends, table, shut), cut_net(ends, table, {end: "y" for end in ends})
            self.assertTrue(alike(one, two))
            self.assertTrue(done(one, derivation(one, two)) == two)
            self.assertTrue(done(two, derivation(two, one)) == one)
            unlike += sorted(pairs(one)) != sorted(pairs(two)) or one != two
        self.assertGreater(unlike, 40)

    def test_one_wire_cut_otherwise_at_its_ends(self):
        """Nothing can be shrunk there; the trees are made alike by turns, then shrunk fork by fork."""
        cut = Net(["a", "b"], [("x", "a", "p", "q"), ("y", "p", "r", "s"), ("y", "q", "t", "u"), ("y", "b", "v", "w"), ("x", "v", "r", "t"),
                               ("x", "w", "s", "u")], [])
        self.assertEqual([step for step in steps_at(cut) if step[0] == "shrink"], [])
        self.assertTrue(done(cut, derivation(cut, WIRE)) == WIRE)
        self.assertTrue(done(WIRE, derivation(WIRE, cut)) == cut)
        for seed in range(60):
            chance = Chance(seed)
            boxes = [(end, [], []) for end in "a"]
            while len(boxes) < 2 + seed % 9:
                _, s, t = boxes.pop(chance.below(len(boxes)))
                kind = chance.below(2)
                boxes += [("a", s + [figure] * kind, t + [figure] * (1 - kind)) for figure in (0, 1)]
            table = [(box, ("b", *box[1:])) for box in boxes]
            nets_there = [cut_net(["a", "b"], table, {"a": one, "b": two}) for one in "xy" for two in "xy"] + [WIRE]
            for one in nets_there:
                for two in nets_there:
                    self.assertTrue(done(one, derivation(one, two)) == two)

    def test_by_chance(self):
        """There is one exactly if the pairings are the same ([56]), and it leads to the other net."""
        none = longest = 0
        for seed in range(150):
            chance = Chance(seed)
            ends = ["a", "b", "c", "d"][:1 + chance.below(4)]
            net = net_of(ends, *some_table(chance, ends, 2 + chance.below(12)))
            one, two = wander(net, chance, chance.below(20), 36), wander(net, chance, chance.below(20), 36)
            steps = derivation(one, two)
            self.assertTrue(done(one, steps) == two)
            self.assertIsNone(derivation_wrong(one, two, steps))
            self.assertEqual(derivation(one, two), steps)
            longest = max(longest, len(steps))
            other = wander(net_of(ends, *some_table(chance, ends, 2 + chance.below(5))), chance, 5)
            steps = derivation(one, other)
            self.assertEqual(steps is not None, alike(one, other))
            self.assertEqual(steps is not None, form(one) == form(other))
            if steps is None:
                none += 1
            else:
                self.assertTrue(is_derivation(one, other, steps))
        self.assertGreater(none, 50)
        self.assertGreater(longest, 15)

    def test_forty_cells_and_rows_of_twelve(self):
        """Combs of twelve forks, of x and of y, that shrink to one wire, and combs whose leaves are led about."""
        combs = []
        for kind in ("x", "y"):
            cells = [(kind, f"{end}{k}" if k else end, f"j{k}", f"{end}{k + 1}") for end in "ab" for k in range(12)]
            combs.append(Net(["a", "b"], cells, [("a12", "b12")]))
        self.assertTrue(done(combs[0], derivation(*combs)) == combs[1])
        both = []
        for first, second in ("xy", "yx"):
            cells = [(first, "a", "a0", "a1"), (first, "b", "b0", "b1")]
            for half in "01":
                cells += [(second, f"{end}{half}" + (f"k{k}" if k else ""), f"{end}{half}j{k}", f"{end}{half}k{k + 1}") for end in "ab" for k in range(8)]
            joins = []
            for half in "01":
                joins += [(f"a{half}j{k}", f"b{half}j{(k + 1) % 8}") for k in range(1, 7)] + [(f"a{half}j7", f"b{half}j1")]
                joins += [(f"a{half}j0", f"b{half}j0"), (f"a{half}k8", f"b{half}k8")]
            both.append(Net(["a", "b"], cells, joins))
        for net in both:
            there = wander(net, Chance(5), 10, 44)
            self.assertTrue(done(net, derivation(net, there)) == there)
        self.assertIsNone(derivation(*both))


class JudgedTest(unittest.TestCase):
    def test_derivation_wrong(self):
        self.assertIsNone(derivation_wrong(net=WIRE, other=DOUBLE, thing=[("grow", "x", "b")]))
        self.assertIs(is_derivation(net=WIRE, other=DOUBLE, thing=[("grow", "x", "b")]), True)
        self.assertIsNone(derivation_wrong(WIRE, DOUBLE, (["grow", "x", "b"],)))
        self.assertIsNone(derivation_wrong(WIRE, WIRE, []))
        self.assertIsNone(derivation_wrong(WIRE, WIRE, [("loop",), ("grow", "y", "a"), ("unloop",), ("shrink", 1)]))
        self.assertEqual(derivation_wrong(WIRE, DOUBLE, []), ("end",))
        self.assertEqual(derivation_wrong(WIRE, WIRE, [("loop",)]), ("end",))
        self.assertEqual(derivation_wrong(WIRE, CROSSED, [("grow", "x", "a")]), ("end",))
        self.assertEqual(derivation_wrong(WIRE, DOUBLE, [("shrink", 0)]), ("step", 0))
        self.assertEqual(derivation_wrong(WIRE, DOUBLE, [("grow", "x", "a"), ("turn", 0), ("grow", "x", "a")]), ("step", 1))
        self.assertEqual(derivation_wrong(WIRE, DOUBLE, [("grow", "x", "a"), ("shrink", 0), None]), ("step", 2))
        self.assertIs(is_derivation(WIRE, CROSSED, []), False)

    def test_any_objects(self):
        for thing in ANYTHING:
            told = derivation_wrong(WIRE, DOUBLE, thing)
            if isinstance(thing, (list, tuple)):
                self.assertEqual(told, ("step", 0) if len(thing) else ("end",))
            else:
                self.assertEqual(told, ("form",))
            self.assertIs(is_derivation(WIRE, DOUBLE, thing), False)

    def test_against_steps(self):
        """It goes along as stepped does, whatever the steps are."""
        for seed, net in enumerate(open_nets(40)):
            chance = Chance(seed)
            there = wander(net, chance, 10)
            steps = derivation(net, there)
            for at in range(len(steps)):
                less = steps[:at] + steps[at + 1:]
                here = net
                wanted = None
                for index, step in enumerate(less):
                    try:
                        here = stepped(here, step)
                    except ValueError:
                        wanted = ("step", index)
                        break
                else:
                    wanted = None if here == there else ("end",)
                self.assertEqual(derivation_wrong(net, there, less), wanted)

    def test_four_hundred_steps(self):
        steps = []
        net = WIRE
        for k in range(200):
            steps.append(("grow", "xy"[k % 2], net.wires()[-1]) if len(net.cells()) < 30 else ("shrink", len(net.cells()) - 1))
            net = stepped(net, steps[-1])
        steps += derivation(net, WIRE) + [("loop",), ("unloop",)] * 100
        self.assertGreaterEqual(len(steps), 400)
        self.assertIsNone(derivation_wrong(WIRE, WIRE, steps))


class ErrorsTest(unittest.TestCase):
    def test_errors(self):
        other = reordered(WIRE, ["b", "a"])
        for work in (lambda net, there: derivation(net, there), lambda net, there: derivation_wrong(net, there, None),
                     lambda net, there: is_derivation(net, there, None)):
            for thing in ANYTHING:
                if not isinstance(thing, Net):
                    self.assertIs(raised(BadNet, work, thing, None).thing, thing)
                    self.assertIs(raised(BadOther, work, HALVES, thing).thing, thing)
            self.assertIs(raised(BadOther, work, WIRE, other).thing, other)
            self.assertIs(raised(BadOther, work, WIRE, AT_REST).thing, AT_REST)
            for net in nets(10):
                self.assertEqual(raised(NotStill, work, net, None).pair, meetings(net)[0])
            self.assertEqual(raised(NotOpen, work, RINGS, None).index, inner(RINGS)[0])
            self.assertEqual(raised(NotStill, work, WIRE, OPENING).pair, (0, 1))
            self.assertEqual(raised(NotOpen, work, AT_REST, AWAY).index, 0)


if __name__ == "__main__":
    unittest.main()
