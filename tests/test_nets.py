"""[8], [9], [10]."""

import unittest

import model
from anything import ANYTHING, raised
from chances import Chance, some_net
from twinforks.errors import BadCells, BadEnds, BadJoins, BadWire
from twinforks.nets import Net

KEPT = ["x", "y", "stop", "join", "loop", "use", "part", "net", "to", "shut"]


class NetTest(unittest.TestCase):
    def test_nothing_at_all(self):
        net = Net([], [], [])
        self.assertEqual((net.ends(), net.cells(), net.joins(), net.loops(), net.wires()), ([], [], [], 0, []))

    def test_by_name(self):
        net = Net(ends=["a"], cells=[("stop", "a")], joins=[])
        self.assertEqual(net.places(wire="a"), ["a", (0, 0)])

    def test_lists_for_tuples(self):
        one = Net(("a", "b"), (["x", "a", "c", "c"], ["stop", "d"]), (["b", "d"],))
        other = Net(["a", "b"], [("x", "a", "c", "c"), ("stop", "b")], [])
        self.assertTrue(one == other)
        self.assertEqual(one.cells(), [("x", "a", "w1", "w1"), ("stop", "b")])
        self.assertTrue(all(type(cell) is tuple for cell in one.cells()))

    def test_joins_and_loops(self):
        net = Net(["a", "b", "c"], [("stop", "q")],
                  [("p", "c"), ("l", "l"), ("a", "p"), ("m", "n"), ("n", "m"), ("r", "q"), ("b", "r")])
        self.assertEqual(net.joins(), [("a", "c")])
        self.assertEqual(net.loops(), 2)
        self.assertEqual(net.cells(), [("stop", "b")])
        self.assertEqual(net.wires(), ["a", "b"])

    def test_joins_are_told_in_the_order_of_ends(self):
        net = Net(["d", "c", "b", "a"], [], [("a", "c"), ("b", "d")])
        self.assertEqual(net.joins(), [("d", "b"), ("c", "a")])
        self.assertTrue(all(type(pair) is tuple for pair in net.joins()))

    def test_a_join_along_a_cell(self):
        net = Net(["a"], [("x", "p", "q", "r")], [("a", "s"), ("s", "p"), ("q", "t"), ("t", "r")])
        self.assertEqual(net.cells(), [("x", "a", "w1", "w1")])
        self.assertEqual(net.loops(), 0)

    def test_what_is_passed_stays(self):
        ends, cells, joins = ["a"], [["x", "a", "b", "b"]], [["c", "c"]]
        net = Net(ends, cells, joins)
        self.assertEqual((ends, cells, joins), (["a"], [["x", "a", "b", "b"]], [["c", "c"]]))
        ends.append("d")
        cells[0][0] = "y"
        joins.clear()
        self.assertEqual((net.ends(), net.cells(), net.loops()), (["a"], [("x", "a", "w1", "w1")], 1))

    def test_what_is_told_is_new(self):
        net = Net(["a", "b", "c"], [("stop", "c")], [("a", "b")])
        for told in (net.ends, net.cells, net.joins, net.wires, lambda: net.places("a")):
            ahead = list(told())
            told().append("more")
            told().clear()
            self.assertEqual(told(), ahead)


class ErrorsTest(unittest.TestCase):
    def test_bad_ends(self):
        for ends, index in ((None, 0), ("a", 0), ({"a": 1}, 0), (["a", "a"], 1), (["a", 1], 1), (["a", ["b"]], 1), (["A"], 0),
                            (["a-"], 0), (["1a"], 0), ([""], 0), (["abcdefghi"], 0), (["a\n"], 0), (["\u00e9"], 0),
                            (["\u0661"], 0), (["a\u0661"], 0), *[([word], 0) for word in KEPT]):
            self.assertEqual(raised(BadEnds, Net, ends, None, None).index, index, ends)

    def test_names_that_are_right(self):
        for name in ("a", "z9", "a1234567", "abcdefgh", "xx", "x1", "stops", "nets", "toto"):
            self.assertEqual(Net([name], [("stop", name)], []).ends(), [name])

    def test_bad_cells(self):
        right = ("x", "a", "b", "b")
        for thing in (None, "x", (), ("x",), ("x", "a", "b"), ("x", "a", "b", "c", "d"), ("z", "a", "b", "c"), ("stop",),
                      ("stop", "a", "b"), ("stop", "x"), ("x", "to", "a", "b"), ("x", 1, "a", "b"), ("x", "a", "b", "to"), ("x", "a", "b", 0), ("stop", ["a"]),
                      ("y", "a", None, "b"), ("stop", "a", "b", "c"), ("x", "a"), (["x"], "a", "b", "c"), {}, "stop"):
            self.assertEqual(raised(BadCells, Net, [], [right, thing], None).index, 1, thing)
            self.assertEqual(raised(BadCells, Net, [], [thing, right, thing], []).index, 0, thing)
        for thing in (None, "", {}, 0, "x"):
            self.assertEqual(raised(BadCells, Net, [], thing, []).index, 0)

    def test_bad_joins(self):
        for thing in (None, "ab", ("a",), ("a", "b", "c"), ("a", "x"), ("a", 1), ("a", ["b"]), {}, ()):
            self.assertEqual(raised(BadJoins, Net, ["a"], [], [("a", "b"), ("c", "c"), thing]).index, 2, thing)
        for thing in (None, "ab", {}, 0):
            self.assertEqual(raised(BadJoins, Net, [], [], thing).index, 0)

    def test_bad_wires(self):
        for ends, cells, joins, name in (
                (["a"], [], [], "a"), (["a", "b"], [("stop", "b")], [], "a"), (["a", "b"], [("stop", "a")], [], "b"),
                (["a"], [("x", "a", "a", "b"), ("stop", "b")], [], "a"), ([], [("x", "p", "q", "p")], [], "q"),
                ([], [("stop", "p")], [("q", "q")], "p"), ([], [], [("q", "r"), ("r", "r"), ("s", "q")], "r"),
                ([], [("stop", "p")], [("p", "q")], "q"), ([], [], [("q", "q"), ("q", "q")], "q"),
                ([], [("x", "b", "a", "a"), ("stop", "a")], [], "b")):
            self.assertEqual(raised(BadWire, Net, ends, cells, joins).name, name, (ends, cells, joins))

    def test_the_order_of_errors(self):
        self.assertEqual(raised(BadEnds, Net, [1], [1], [1]).index, 0)
        self.assertEqual(raised(BadCells, Net, ["a"], [1], [1]).index, 0)
        self.assertEqual(raised(BadJoins, Net, ["a"], [("stop", "b")], [1]).index, 0)

    def test_any_object(self):
        for thing in ANYTHING:
            if not isinstance(thing, (list, tuple)) or thing:
                raised_any(Net, thing, [], [])
                raised_any(Net, [], thing, [])
                raised_any(Net, [], [], thing)

    def test_bad_places(self):
        net = Net(["a", "b"], [("x", "a", "b", "c"), ("stop", "c")], [])
        for thing in [*ANYTHING, "w2", "c", "w", "w0", "w01"]:
            if thing != "a":
                self.assertIs(raised(BadWire, net.places, thing).name, thing)


def raised_any(work, *things):
    """One of the errors of a net, and no other one."""
    try:
        work(*things)
    except (BadEnds, BadCells, BadJoins, BadWire):
        pass


class OrderTest(unittest.TestCase):
    def test_example(self):
        net = Net(["a", "b"], [("x", "w", "a", "c"), ("x", "w", "b", "c")], [])
        self.assertEqual(net.cells(), [("x", "w1", "a", "w2"), ("x", "w1", "b", "w2")])
        self.assertEqual(net.loops(), 0)

    def test_along_the_ends_first(self):
        net = Net(["b", "a"], [("x", "a", "p", "q"), ("y", "b", "q", "p")], [])
        self.assertEqual(net.cells(), [("y", "b", "w1", "w2"), ("x", "a", "w2", "w1")])

    def test_names_of_ends_are_passed_over(self):
        net = Net(["w2", "w4"], [("x", "w2", "p", "q"), ("x", "q", "w4", "r"), ("y", "p", "s", "t"),
                                 ("stop", "r"), ("x", "s", "t", "u"), ("stop", "u")], [])
        self.assertEqual(net.cells(), [("x", "w2", "w1", "w3"), ("x", "w3", "w4", "w5"), ("y", "w1", "w6", "w7"),
                                       ("stop", "w5"), ("x", "w6", "w7", "w8"), ("stop", "w8")])
        self.assertEqual(net.wires(), ["w2", "w4", "w1", "w3", "w5", "w6", "w7", "w8"])

    def test_closed_parts(self):
        cells = [("y", "a", "b", "b"), ("stop", "a"), ("stop", "c"), ("stop", "c"), ("x", "d", "d", "e"), ("stop", "e"),
                 ("stop", "end")]
        net = Net(["end"], cells, [])
        self.assertEqual(net.cells(), [("stop", "end"), ("stop", "w1"), ("stop", "w1"), ("stop", "w2"), ("x", "w3", "w3", "w2"),
                                       ("stop", "w4"), ("y", "w4", "w5", "w5")])

    def test_a_listing_is_less_by_its_wires(self):
        # From the first cell: ("x", 0, 1, 1), from the second one: ("x", 0, 1, 2).
        net = Net([], [("x", "a", "p", "q"), ("x", "a", "r", "r"), ("stop", "p"), ("stop", "q")], [])
        self.assertEqual(net.cells()[0], ("stop", "w1"))
        net = Net([], [("x", "a", "p", "q"), ("x", "a", "r", "r"), ("x", "p", "q", "s"), ("x", "s", "t", "t")], [])
        self.assertEqual(net.cells()[0], ("x", "w1", "w2", "w2"))

    def test_against_the_model(self):
        for seed in range(300):
            chance = Chance(seed)
            kinds = chance.one_of([("x", "y", "stop"), ("x",), ("x", "y"), ("x", "stop")])
            ends, cells, joins = some_net(chance, chance.below(5), chance.below(12), chance.below(4), kinds)
            net = Net(ends, cells, joins)
            self.assertEqual((net.cells(), net.joins(), net.loops()), model.told(ends, cells, joins), seed)

    def test_whatever_they_were_called(self):
        for seed in range(100):
            chance = Chance(seed)
            ends, cells, joins = some_net(chance, chance.below(4), 8, 3, chance.one_of([("x", "y"), ("x",)]))
            rows = [cell[1:] for cell in cells] + joins
            names = [name for name in dict.fromkeys(name for row in rows for name in row) if name not in ends]
            others = dict(zip(names, chance.mixed([f"o{k}" for k in range(len(names))])))
            others.update({end: end for end in ends})
            mixed = [(cell[0], *[others[name] for name in cell[1:]]) for cell in chance.mixed(cells)]
            turned = [tuple(others[name] for name in chance.mixed(pair)) for pair in chance.mixed(joins)]
            self.assertTrue(Net(ends, cells, joins) == Net(ends, mixed, turned), seed)

    def test_what_is_told_makes_it(self):
        for seed in range(100):
            chance = Chance(seed)
            net = Net(*some_net(chance, chance.below(5), chance.below(12), 3))
            loops = [(f"l{k}", f"l{k}") for k in range(net.loops())]
            self.assertTrue(Net(net.ends(), net.cells(), net.joins() + loops) == net)

    def test_even_parts_of_many_cells(self):
        many = 1000
        cells = [("x", f"b{min(k, (k + many // 2) % many)}", f"r{k}", f"r{(k + 1) % many}") for k in range(many)]
        net = Net([], cells, [])
        self.assertTrue(net == Net([], list(reversed(cells)), []))
        self.assertEqual(len(net.cells()), many)


class PlacesTest(unittest.TestCase):
    def test_places(self):
        net = Net(["a", "b", "c"], [("x", "p", "q", "q"), ("y", "p", "b", "r"), ("stop", "r")], [("a", "c")])
        self.assertEqual(net.cells(), [("y", "w1", "b", "w2"), ("x", "w1", "w3", "w3"), ("stop", "w2")])
        self.assertEqual(net.places("a"), ["a", "c"])
        self.assertEqual(net.places("c"), ["a", "c"])
        self.assertEqual(net.places("b"), ["b", (0, 1)])
        self.assertEqual(net.places("w1"), [(0, 0), (1, 0)])
        self.assertEqual(net.places("w2"), [(0, 2), (2, 0)])
        self.assertEqual(net.places("w3"), [(1, 1), (1, 2)])
        self.assertEqual(net.wires(), ["a", "b", "w1", "w2", "w3"])

    def test_places_stand_at_the_wires(self):
        for seed in range(60):
            chance = Chance(seed)
            net = Net(*some_net(chance, chance.below(5), chance.below(12), 2))
            cells = net.cells()
            found = []
            for wire in net.wires():
                for place in net.places(wire):
                    if not isinstance(place, str):
                        self.assertEqual(cells[place[0]][place[1] + 1], wire)
                    found.append(place)
            self.assertEqual(len(found), len(net.ends()) + sum(len(cell) - 1 for cell in cells))


class EqualityTest(unittest.TestCase):
    def test_by_ends_cells_joins_loops(self):
        nets = [Net(["a", "b"], [], [("a", "b")]), Net(["b", "a"], [], [("a", "b")]), Net(["a", "b"], [("stop", "a"), ("stop", "b")], []),
                Net(["a", "b"], [], [("a", "b"), ("c", "c")]), Net(["a", "c"], [], [("a", "c")]), Net([], [], []),
                Net([], [], [("c", "c")]), Net(["a", "b"], [("x", "a", "b", "c"), ("stop", "c")], []),
                Net(["b", "a"], [("x", "a", "b", "c"), ("stop", "c")], []), Net(["a", "b"], [("y", "a", "b", "c"), ("stop", "c")], []),
                Net(["a", "b", "c", "d"], [], [("a", "b"), ("c", "d")]), Net(["a", "b", "c", "d"], [], [("a", "c"), ("b", "d")])]
        for at, net in enumerate(nets):
            for place, other in enumerate(nets):
                self.assertIs(net == other, at == place)
                self.assertIs(net != other, at != place)

    def test_to_nothing_else(self):
        net = Net([], [], [])
        for thing in ANYTHING:
            if not isinstance(thing, Net):
                self.assertFalse(net == thing)
                self.assertFalse(thing == net)


if __name__ == "__main__":
    unittest.main()
