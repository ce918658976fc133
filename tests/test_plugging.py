"""[46] to [49]."""

import unittest

from anything import ANYTHING, raised
from chances import Chance, make_net, some_endless, some_table
from samples import AT_REST, CROSSED, HALVES, NOTHING, OPENING, WIRE, nets, wander
from twinforks.errors import BadEnds, BadNames, BadNet, BadOther, BadTies, Meets
from twinforks.nets import Net
from twinforks.plugging import closed, plugged, renamed, reordered
from twinforks.tables import net_of
from twinforks.walking import walk

CD = Net(["c", "d"], [], [("c", "d")])


def pair_of_nets(seed, cells=6):
    """Two nets by chance, their ends unlike, and ties of some of them."""
    chance = Chance(seed)
    one = make_net(chance, 1 + chance.below(4), chance.below(cells))
    two = make_net(chance, 1 + chance.below(4), chance.below(cells))
    two = renamed(two, {end: "f" + end[1:] for end in two.ends()})
    ties = list(zip(chance.mixed(one.ends()), chance.mixed(two.ends())))
    return one, two, ties[:chance.below(len(ties) + 1)], chance


def other_names(net, sign):
    """Cells and joins of a net, each name otherwise, its loops as joins."""
    cells = [(cell[0], *[sign + name for name in cell[1:]]) for cell in net.cells()]
    joins = [(sign + one, sign + two) for one, two in net.joins()]
    return cells, joins + [(f"l{sign}{k}", f"l{sign}{k}") for k in range(net.loops())]


class PluggedTest(unittest.TestCase):
    def test_plugged(self):
        net = plugged(net=WIRE, other=CD, ties=[("b", "c")])
        self.assertTrue(net == Net(["a", "d"], [], [("a", "d")]))
        self.assertTrue(plugged(WIRE, CD, []) == Net(["a", "b", "c", "d"], [], [("a", "b"), ("c", "d")]))
        self.assertTrue(plugged(WIRE, CD, (["b", "d"], ["a", "c"])) == Net([], [], [("l", "l")]))
        self.assertTrue(plugged(WIRE, WIRE, [("a", "a"), ("b", "b")]) == Net([], [], [("l", "l")]))
        self.assertTrue(plugged(NOTHING, NOTHING, []) == NOTHING)
        net = plugged(HALVES, renamed(HALVES, {"a": "c", "b": "d"}), [("a", "c")])
        self.assertEqual((net.ends(), len(net.cells())), (["b", "d"], 8))
        self.assertEqual(net.cells()[2][0], "x")

    def test_inner_wires_are_each_nets_own(self):
        net = plugged(AT_REST, renamed(AT_REST, {"a": "b"}), [])
        self.assertEqual(net.cells(), [("x", "a", "w1", "w1"), ("x", "b", "w2", "w2")])
        # An end called like the other net's inner wire.
        net = plugged(renamed(AT_REST, {"a": "w1"}), AT_REST, [])
        self.assertEqual(net.cells(), [("x", "w1", "w2", "w2"), ("x", "a", "w3", "w3")])

    def test_by_names(self):
        for seed in range(150):
            one, two, ties, _ = pair_of_nets(seed)
            cells, joins = other_names(one, "p")
            more_cells, more_joins = other_names(two, "q")
            joins += more_joins + [("p" + end, "q" + other) for end, other in ties]
            left = [end for end in one.ends() if end not in [tie[0] for tie in ties]]
            right = [end for end in two.ends() if end not in [tie[1] for tie in ties]]
            joins += [("p" + end, end) for end in left] + [("q" + end, end) for end in right]
            self.assertTrue(plugged(one, two, ties) == Net(left + right, cells + more_cells, joins))

    def test_meets(self):
        self.assertEqual(raised(Meets, plugged, WIRE, WIRE, []).end, "a")
        self.assertEqual(raised(Meets, plugged, WIRE, WIRE, [("a", "a")]).end, "b")
        self.assertEqual(plugged(WIRE, WIRE, [("a", "b")]).ends(), ["b", "a"])
        one, two = reordered(WIRE, ["b", "a"]), Net(["c", "b", "a"], [("stop", "a"), ("stop", "b"), ("stop", "c")], [])
        self.assertEqual(raised(Meets, plugged, one, two, []).end, "a")

    def test_ties(self):
        for ties, index in ((None, 0), ("bc", 0), ({}, 0), ([("b", "c"), ("a", "c")], 1), ([("b", "c"), ("b", "d")], 1), ([("c", "a")], 0),
                            ([("a", "c"), ("b",)], 1), ([("a", "c"), ("b", "d", "d")], 1), ([("a", "c"), None], 1), ([("a", "c"), "bd"], 1),
                            ([("a", ["c"])], 0), ([(["a"], "c")], 0), ([("w1", "c")], 0), (3, 0)):
            self.assertEqual(raised(BadTies, plugged, WIRE, CD, ties).index, index)
        # What is tied twice is wrong ahead of names that stand twice.
        self.assertEqual(raised(BadTies, plugged, WIRE, WIRE, [("c", "a")]).index, 0)

    def test_errors(self):
        for thing in ANYTHING:
            if not isinstance(thing, Net):
                self.assertIs(raised(BadNet, plugged, thing, None, None).thing, thing)
                self.assertIs(raised(BadOther, plugged, WIRE, thing, None).thing, thing)
            if thing not in ([], ()):
                self.assertEqual(raised(BadTies, plugged, WIRE, CD, thing).index, 0)


class ClosedTest(unittest.TestCase):
    def test_closed(self):
        self.assertTrue(closed(net=WIRE, ties=[("a", "b")]) == Net([], [], [("l", "l")]))
        self.assertTrue(closed(WIRE, []) == WIRE)
        self.assertTrue(closed(Net(["a", "b", "c", "d"], [], [("a", "b"), ("c", "d")]), [("b", "c")]) == Net(["a", "d"], [], [("a", "d")]))
        self.assertTrue(closed(Net(["a", "b", "c", "d"], [], [("a", "b"), ("c", "d")]), [["b", "c"], ["d", "a"]]) == Net([], [], [("l", "l")]))
        self.assertTrue(closed(CROSSED, [("a", "b")]) == Net([], [("x", "a", "p", "q"), ("x", "a", "q", "p")], []))

    def test_by_names(self):
        for seed in range(150):
            chance = Chance(seed)
            net = make_net(chance, 2 + chance.below(5), chance.below(6))
            ends = chance.mixed(net.ends())
            ties = [(ends[2 * k], ends[2 * k + 1]) for k in range(chance.below(len(ends) // 2 + 1))]
            cells, joins = other_names(net, "p")
            left = [end for end in net.ends() if not any(end in tie for tie in ties)]
            joins += [("p" + one, "p" + two) for one, two in ties] + [("p" + end, end) for end in left]
            self.assertTrue(closed(net, ties) == Net(left, cells, joins))

    def test_errors(self):
        for ties, index in ((None, 0), ({}, 0), ([("a", "a")], 0), ([("a", "c")], 0), ([("a", "b"), ("a", "b")], 1), ([("a",)], 0), (["ab"], 0),
                            ([("a", "b", "a")], 0), ([("a", ["b"])], 0), ([("a", "w1")], 0), ([("c", "a")], 0),
                            ([(["a"], "b")], 0)):
            self.assertEqual(raised(BadTies, closed, HALVES, ties).index, index)
        net = Net(["a", "b", "c", "d"], [], [("a", "b"), ("c", "d")])
        self.assertEqual(raised(BadTies, closed, net, [("a", "b"), ("c", "b")]).index, 1)
        self.assertEqual(raised(BadTies, closed, net, [("a", "b"), ("a", "c")]).index, 1)
        self.assertEqual(raised(BadTies, closed, net, [("a", "b"), ("b", "c")]).index, 1)
        self.assertEqual(raised(BadTies, closed, net, [("a", "b"), ("c", "d"), None]).index, 2)
        for thing in ANYTHING:
            if not isinstance(thing, Net):
                self.assertIs(raised(BadNet, closed, thing, None).thing, thing)
            if thing not in ([], (), [["a", "b"]]):
                self.assertEqual(raised(BadTies, closed, HALVES, thing).index, 0)


class NamesTest(unittest.TestCase):
    def test_renamed(self):
        self.assertTrue(renamed(net=WIRE, names={"a": "b", "b": "a"}) == Net(["b", "a"], [], [("a", "b")]))
        self.assertTrue(renamed(HALVES, {"b": "q", "a": "p"}) == Net(["p", "q"], [("x", "p", "b", "c"), ("y", "q", "b", "d"), ("stop", "c"), ("stop", "d")], []))
        self.assertTrue(renamed(NOTHING, {}) == NOTHING)
        looped = Net(["a"], [("stop", "a")], [("l", "l")])
        self.assertTrue(renamed(looped, {"a": "w1"}) == Net(["w1"], [("stop", "w1")], [("l", "l")]))
        for net in nets(40):
            names = {end: "z" + end for end in net.ends()}
            there = renamed(net, names)
            self.assertEqual(there.ends(), ["z" + end for end in net.ends()])
            self.assertTrue(renamed(there, {there_end: end for end, there_end in names.items()}) == net)

    def test_bad_names(self):
        for names in (None, [], {}, {"a": "c"}, {"a": "c", "b": "c"}, {"a": "c", "b": "x"}, {"a": "c", "b": "d", "e": "f"}, {"a": "c", "c": "b"},
                      {"a": "c", "b": 1}, {"a": ["c"], "b": "d"}, [("a", "c"), ("b", "d")], {"a": "c", "b": "toolongna"}, {"a": "", "b": "c"}):
            self.assertIs(raised(BadNames, renamed, WIRE, names).names, names)
        for thing in ANYTHING:
            if not isinstance(thing, Net):
                self.assertIs(raised(BadNet, renamed, thing, None).thing, thing)
                self.assertIs(raised(BadNet, reordered, thing, None).thing, thing)
            self.assertIs(raised(BadNames, renamed, WIRE, thing).names, thing)

    def test_reordered(self):
        self.assertTrue(reordered(net=HALVES, ends=["b", "a"]) == Net(["b", "a"], [("x", "a", "p", "q"), ("y", "b", "p", "r"), ("stop", "q"), ("stop", "r")], []))
        self.assertTrue(reordered(NOTHING, ()) == NOTHING)
        for seed, net in enumerate(nets(40)):
            there = reordered(net, Chance(seed).mixed(net.ends()))
            self.assertEqual((sorted(there.ends()), there.loops()), (sorted(net.ends()), net.loops()))
            self.assertTrue(reordered(there, net.ends()) == net)

    def test_bad_ends(self):
        for ends, index in ((None, 0), ("ab", 0), ({}, 0), ([], 0), (["a"], 1), (["a", "a"], 1), (["b", "c"], 1), ([None, "a"], 0), (["a", "b", "a"], 2),
                            (["a", "b", "c"], 2), ([["a"], "b"], 0)):
            self.assertEqual(raised(BadEnds, reordered, WIRE, ends).index, index)


class TheoremTest(unittest.TestCase):
    def test_walkers_fare_by_the_parts(self):
        """[49]: out of one part at a tied end is into the other one at its partner."""
        tried = 0
        for seed in range(300):
            one, two, ties, chance = pair_of_nets(seed)
            whole = plugged(one, two, ties)
            there, back = dict(ties), {right: left for left, right in ties}
            for end in whole.ends():
                x, y = some_endless(chance, 3), some_endless(chance, 3)
                told = walk(whole, end, x, y, 200)
                part, at, number = (one if end in one.ends() else two), end, 0
                fare = walk(part, at, x, y, 200)
                for _ in range(50):
                    if fare is None or fare[0] == "stopped":
                        break
                    number += fare[-1]
                    x, y = fare[2], fare[3]
                    tied = there if part is one else back
                    if fare[1] not in tied:
                        break
                    part, at = (two if part is one else one), tied[fare[1]]
                    fare = walk(part, at, x, y, 200)
                if told is not None and told[0] == "out":
                    self.assertEqual(told, ("out", fare[1], x, y, number))
                    tried += 1
                elif told is not None:
                    self.assertEqual(told, ("stopped", number + fare[-1]))
        self.assertGreater(tried, 80)

    def test_a_part_in_the_place_of_another(self):
        """All walkers come out as before where a part has the same pairing."""
        for seed in range(60):
            chance = Chance(seed)
            part = net_of(["a", "b", "c"], *some_table(chance, ["a", "b", "c"], 6))
            other = wander(part, chance, 12)
            about = make_net(chance, 3, 6)
            ties = list(zip(about.ends(), ["b", "c"]))
            one, two = plugged(about, part, ties), plugged(about, other, ties)
            for end in one.ends():
                x, y = some_endless(chance, 3), some_endless(chance, 3)
                told, there = walk(one, end, x, y, 500), walk(two, end, x, y, 500)
                if told is not None and there is not None:
                    self.assertEqual(told[:-1], there[:-1])
            self.assertTrue(plugged(OPENING, CD, [("a", "c")]).ends() == ["b", "d"])


if __name__ == "__main__":
    unittest.main()
