"""What [29] says of way_back, and [32]."""

import unittest

from anything import ANYTHING, raised
from chances import Chance, some_endless, some_row
from samples import AT_REST, AWAY, CROSSED, HALVES, nets
from twinforks.errors import BadBox, BadNet, BadWay
from twinforks.nets import Net
from twinforks.walking import box_walked, walk, way
from twinforks.ways import is_way, way_back, way_wrong

WAY = [(0, "take", 0), (0, "put", 1)]
NO_WAYS = [None, 0, "", "put", {}, ((0, "put", 1), None), [0], [(0, "put")], [(0, "put", 1, 1)], [(0, "puts", 1)], [("a", "put", 1)],
           [(-1, "put", 1)], [(True, "put", 1)], [(0, "put", 2)], [(0, "put", True)], [(0, "put", -1)], [(0, "meet", 0)], [(0, ["put"], 0)],
           [(0, "put", [0])], [{0: 1}]]


class WayBackTest(unittest.TestCase):
    def test_way_back(self):
        self.assertEqual(way_back(way=WAY), [(0, "take", 1), (0, "put", 0)])
        self.assertEqual(way_back([]), [])
        self.assertEqual(way_back(()), [])
        self.assertEqual(way_back([[5, "put", 1], [10 ** 12, "take", 0]]), [(10 ** 12, "put", 0), (5, "take", 1)])

    def test_it_undoes(self):
        tried = 0
        for seed, net in enumerate(nets(200)):
            chance = Chance(seed)
            for end in net.ends():
                x, y = some_endless(chance, 3), some_endless(chance, 3)
                told = walk(net, end, x, y, 60)
                if told is not None and told[0] == "out":
                    there = way(net, end, x, y, 60)
                    self.assertEqual(way(net, told[1], told[2], told[3], 60), way_back(there))
                    self.assertEqual(way_back(way_back(there)), there)
                    tried += 1
        self.assertGreater(tried, 50)

    def test_no_way(self):
        for thing in NO_WAYS:
            self.assertIs(raised(BadWay, way_back, thing).thing, thing)
        for thing in ANYTHING:
            if thing not in ([], ()):
                self.assertIs(raised(BadWay, way_back, thing).thing, thing)


class WayWrongTest(unittest.TestCase):
    def test_by_name(self):
        self.assertIsNone(way_wrong(net=AT_REST, box=("a", [0], []), thing=WAY))
        self.assertIs(is_way(net=AT_REST, box=("a", [0], []), thing=WAY), True)
        self.assertIs(is_way(AT_REST, ("a", [1], []), WAY), False)

    def test_form(self):
        for thing in NO_WAYS:
            self.assertEqual(way_wrong(AT_REST, ("a", [0], []), thing), ("form",))
            self.assertIs(is_way(AT_REST, ("a", [0], []), thing), False)
        for thing in ANYTHING:
            wanted = ("end",) if thing in ([], ()) else ("form",)
            self.assertEqual(way_wrong(AT_REST, ("a", [0], []), thing), wanted)

    def test_passing(self):
        box = ("a", [0], [])
        # It passes otherwise.
        self.assertEqual(way_wrong(AT_REST, box, [(0, "take", 1)]), ("passing", 0))
        self.assertEqual(way_wrong(AT_REST, box, [(1, "take", 0)]), ("passing", 0))
        self.assertEqual(way_wrong(AT_REST, box, [(0, "put", 0)]), ("passing", 0))
        self.assertEqual(way_wrong(AT_REST, box, [WAY[0], (0, "put", 0)]), ("passing", 1))
        # It has come out, is stopped, asks.
        self.assertEqual(way_wrong(AT_REST, box, [*WAY, (0, "take", 1)]), ("passing", 2))
        self.assertEqual(way_wrong(HALVES, ("a", [1], []), [(0, "take", 1), (2, "take", 0)]), ("passing", 1))
        self.assertEqual(way_wrong(AT_REST, ("a", [], []), WAY), ("passing", 0))
        self.assertEqual(way_wrong(AT_REST, ("a", [], [0]), WAY), ("passing", 0))
        self.assertEqual(way_wrong(AT_REST, box, [*WAY, (10 ** 9, "take", 1), None]), ("form",))

    def test_end(self):
        self.assertEqual(way_wrong(AT_REST, ("a", [0], []), WAY[:1]), ("end",))
        self.assertEqual(way_wrong(AT_REST, ("a", [], []), []), ("end",))
        self.assertEqual(way_wrong(AWAY, ("a", [], []), [(0, "put", 1), (0, "put", 0)]), ("end",))
        self.assertIsNone(way_wrong(HALVES, ("a", [1], []), [(0, "take", 1)]))
        wire = Net(["a", "b"], [], [("a", "b")])
        self.assertIsNone(way_wrong(wire, ("a", [], []), []))
        self.assertIsNone(way_wrong(Net(["a"], [("stop", "a")], []), ("a", [], []), ()))

    def test_ways_told(self):
        """A walk's way is one for the box of its figures; cut short it lacks its end; with one passing otherwise it is wrong."""
        tried = 0
        for seed, net in enumerate(nets(150)):
            chance = Chance(seed)
            for end in net.ends():
                s, t = some_row(chance, 5), some_row(chance, 5)
                fare = box_walked(net, (end, s, t), 60)
                there = way(net, end, (s, [0]), (t, [0]), 60)
                if fare is None or fare[0] == "asks":
                    continue
                self.assertIsNone(way_wrong(net, (end, s, t), there))
                self.assertIsNone(way_wrong(net, [end, tuple(s), tuple(t)], tuple(list(passing) for passing in there)))
                for at in range(len(there)):
                    self.assertEqual(way_wrong(net, (end, s, t), there[:at]), ("end",))
                    index, deed, figure = there[at]
                    for other in ((index + 1, deed, figure), (index, "put" if deed == "take" else "take", figure), (index, deed, 1 - figure)):
                        self.assertEqual(way_wrong(net, (end, s, t), [*there[:at], other, *there[at + 1:]]), ("passing", at))
                    tried += 1
                self.assertEqual(way_wrong(net, (end, s, t), [*there, (0, "put", 0)]), ("passing", len(there)))
        self.assertGreater(tried, 100)

    def test_errors(self):
        for thing in ANYTHING:
            for work in (way_wrong, is_way):
                if not isinstance(thing, Net):
                    self.assertIs(raised(BadNet, work, thing, None, None).thing, thing)
                if thing != ("a", [], []):
                    self.assertIs(raised(BadBox, work, CROSSED, thing, None).thing, thing)


if __name__ == "__main__":
    unittest.main()
