"""[27], [28], what [29] says of way, what [30] says of box_walked."""

import unittest

import model
from anything import ANYTHING, raised
from chances import Chance, some_endless, some_row
from samples import AT_REST, NOTHING, nets
from twinforks.endless import put_all, tops
from twinforks.errors import BadBox, BadEnd, BadEndless, BadMost, BadNet
from twinforks.forms import is_endless, least_endless
from twinforks.meetings import meetings, met, sort_of
from twinforks.nets import Net
from twinforks.walking import box_walked, walk, way

ZEROS = ([], [0])
FORKS = Net(["a", "b"], [("x", "a", "p", "q"), ("y", "b", "q", "p")], [])
AWAY = Net(["a"], [("x", "p", "p", "a")], [])


def walks(many, most, cells=8):
    """Nets with ends, an end and two endless rows, by chance."""
    told = []
    for seed, net in enumerate(nets(many, cells)):
        chance = Chance(seed)
        if net.ends():
            told.append((net, chance.one_of(net.ends()), some_endless(chance, 3), some_endless(chance, 3), most))
    return told


class WalkTest(unittest.TestCase):
    def test_by_name(self):
        told = walk(net=FORKS, end="a", x=([1], [0]), y=([], [0, 1]), most=2)
        self.assertEqual(told, ("out", "b", ([], [0]), ([0], [0, 1]), 2))
        self.assertEqual(way(net=FORKS, end="a", x=([1], [0]), y=ZEROS, most=2), [(0, "take", 1), (1, "put", 0)])
        self.assertEqual(box_walked(net=FORKS, box=("a", [1], []), most=2), ("out", ("b", [], [0])))

    def test_wires_alone(self):
        net = Net(["a", "b", "c"], [("stop", "c")], [("a", "b")])
        self.assertEqual(walk(net, "a", ([0], [0]), ([0, 0], [1, 1]), 0), ("out", "b", ([], [0]), ([0, 0], [1]), 0))
        self.assertEqual(way(net, "b", ZEROS, ZEROS, 0), [])
        self.assertEqual(walk(net, "c", ZEROS, ZEROS, 0), ("stopped", 0))
        self.assertEqual(way(net, "c", ZEROS, ZEROS, 0), [])
        self.assertEqual(box_walked(net, ("a", [1], [0]), 0), ("out", ("b", [1], [0])))
        self.assertEqual(box_walked(net, ["c", (), ()], 0), ("stopped",))

    def test_takes_and_puts(self):
        self.assertEqual(walk(FORKS, "a", ([0, 1], [0]), ([], [0]), 9), ("out", "b", ([1], [0]), ([1], [0]), 2))
        self.assertEqual(walk(FORKS, "b", ([0, 1], [0]), ([1], [0]), 9), ("out", "a", ([0, 0, 1], [0]), ([], [0]), 2))
        self.assertEqual(way(FORKS, "b", ZEROS, ([1], [0]), 9), [(1, "take", 1), (0, "put", 0)])

    def test_stopped(self):
        net = Net(["a"], [("x", "a", "p", "q"), ("stop", "p"), ("y", "r", "q", "r")], [])
        self.assertEqual(walk(net, "a", ZEROS, ZEROS, 1), ("stopped", 1))
        self.assertIsNone(walk(net, "a", ZEROS, ZEROS, 0))
        self.assertEqual(way(net, "a", ZEROS, ZEROS, 1), [(0, "take", 0)])
        self.assertIsNone(way(net, "a", ZEROS, ZEROS, 0))
        self.assertEqual(box_walked(net, ("a", [0], [1]), 1), ("stopped",))
        self.assertIsNone(box_walked(net, ("a", [0], [1]), 0))

    def test_for_ever(self):
        for most in (0, 1, 17, 2000):
            self.assertIsNone(walk(AWAY, "a", ZEROS, ZEROS, most))
            self.assertIsNone(way(AWAY, "a", ZEROS, ZEROS, most))
            self.assertIsNone(box_walked(AWAY, ("a", [], []), most))

    def test_just_enough_and_one_too_few(self):
        tried = 0
        for net, end, x, y, most in walks(150, 100):
            told = walk(net, end, x, y, most)
            if told is not None and told[-1] > 0:
                self.assertEqual(walk(net, end, x, y, told[-1]), told)
                self.assertEqual(walk(net, end, x, y, 999999999), told)
                self.assertEqual(len(way(net, end, x, y, told[-1])), told[-1])
                self.assertIsNone(walk(net, end, x, y, told[-1] - 1))
                self.assertIsNone(way(net, end, x, y, told[-1] - 1))
                tried += 1
        self.assertGreater(tried, 50)

    def test_against_the_model(self):
        for net, end, x, y, most in walks(200, 60):
            told = walk(net, end, x, y, most)
            wanted = model.walked(net, end, tops(x, 200), tops(y, 200), most)
            if told is None or told[0] == "stopped":
                self.assertEqual(told, wanted)
            else:
                self.assertEqual((told[0], told[1], told[4]), (wanted[0], wanted[1], wanted[4]))
                for place in (2, 3):
                    self.assertEqual(tops(told[place], 100), wanted[place][:100])
                    self.assertEqual(told[place], least_endless(told[place]))

    def test_equal_rows_are_equal_arguments(self):
        for net, end, x, y, most in walks(40, 60):
            again = [(list(row[0]) + list(row[1]), list(row[1]) * 3) for row in (x, y)]
            self.assertEqual(walk(net, end, *again, most), walk(net, end, x, y, most))
            self.assertEqual(way(net, end, *again, most), way(net, end, x, y, most))
            self.assertEqual(walk(net, end, [tuple(x[0]), tuple(x[1])], y, most), walk(net, end, x, y, most))

    def test_ways_are_the_passings(self):
        for net, end, x, y, most in walks(100, 60):
            told = way(net, end, x, y, most)
            fare = walk(net, end, x, y, most)
            self.assertEqual(told is None, fare is None)
            if told is None:
                continue
            self.assertEqual(len(told), fare[-1])
            cells = net.cells()
            piles = {"x": tops(x, 100), "y": tops(y, 100)}
            for passing in told:
                index, deed, figure = passing
                self.assertIs(type(passing), tuple)
                if deed == "take":
                    self.assertEqual(piles[cells[index][0]].pop(0), figure)
                else:
                    self.assertEqual(deed, "put")
                    piles[cells[index][0]].insert(0, figure)
            if fare[0] == "out":
                self.assertEqual([piles["x"][:30], piles["y"][:30]], [tops(fare[2], 30), tops(fare[3], 30)])

    def test_what_is_told_is_new(self):
        told = walk(FORKS, "a", ZEROS, ZEROS, 2)
        told[2][0].append(1)
        told[3][1].append(1)
        self.assertEqual(ZEROS, ([], [0]))
        self.assertEqual(walk(FORKS, "a", ZEROS, ZEROS, 2), ("out", "b", ([], [0]), ([1], [0]), 2))
        wire = Net(["a", "b"], [], [("a", "b")])
        told = walk(wire, "a", ZEROS, ZEROS, 2)
        self.assertIsNot(told[2][0], told[3][0])
        self.assertIsNot(told[2][1], ZEROS[1])
        box = ("a", [1], [])
        told = box_walked(wire, box, 2)
        told[1][1].append(1)
        self.assertEqual(box, ("a", [1], []))


class KeptTest(unittest.TestCase):
    def test_alike_behind_each_meeting(self):
        """Out at the same end with the same piles, or stopped; and the lengths that [28] tells."""
        tried = 0
        for net, end, x, y, _ in walks(150, 0):
            told = walk(net, end, x, y, 400)
            for pair in meetings(net):
                behind = walk(met(net, pair), end, x, y, 400)
                if told is None or behind is None:
                    self.assertEqual(told, behind)
                    continue
                self.assertEqual(told[:-1], behind[:-1])
                less = told[-1] - behind[-1]
                sort = sort_of(net, pair)
                if sort == ("x", "y") or sort == ("stop", "stop"):
                    self.assertEqual(less, 0)
                elif sort[0] == "stop":
                    self.assertIn(less, (0, 1) if told[0] == "stopped" else (0,))
                else:
                    through = [passing[0] for passing in way(net, end, x, y, 400)].count(pair[0])
                    self.assertEqual(less, 2 * through)
                tried += 1
        self.assertGreater(tried, 100)

    def test_gone_back(self):
        tried = 0
        for net, end, x, y, most in walks(200, 200):
            told = walk(net, end, x, y, most)
            if told is not None and told[0] == "out":
                _, other, u, v, number = told
                self.assertEqual(walk(net, other, u, v, number), ("out", end, least_endless(x), least_endless(y), number))
                self.assertNotEqual((end, least_endless(x), least_endless(y)), (other, u, v))
                back = [(index, "put" if deed == "take" else "take", figure) for index, deed, figure in way(net, end, x, y, most)]
                self.assertEqual(way(net, other, u, v, number), back[::-1])
                tried += 1
        self.assertGreater(tried, 40)


class BoxTest(unittest.TestCase):
    def test_asks(self):
        self.assertEqual(box_walked(FORKS, ("a", [], [0, 1]), 9), ("asks", "x"))
        self.assertEqual(box_walked(FORKS, ("b", [0, 1], []), 0), ("asks", "y"))
        # It asks behind as many passings as it may have.
        net = Net(["a"], [("x", "a", "p", "p")], [])
        self.assertEqual(box_walked(net, ("a", [1, 0], []), 2), ("out", ("a", [0, 0], [])))
        net = Net(["a"], [("x", "a", "p", "q"), ("y", "p", "r", "r"), ("stop", "q")], [])
        self.assertEqual(box_walked(net, ("a", [0], []), 1), ("asks", "y"))
        self.assertIsNone(box_walked(net, ("a", [0], []), 0))
        self.assertIsNone(box_walked(net, ("a", [0], [1]), 1))

    def test_against_walks(self):
        """Out: each address of the box comes out so. Stopped: each is. It asks: those with either figure fare on."""
        tried = {}
        for seed, (net, end, x, y, most) in enumerate(walks(200, 60)):
            chance = Chance(seed)
            s, t = some_row(chance, 4), some_row(chance, 4)
            told = box_walked(net, (end, s, t), most)
            fare = walk(net, end, put_all(s, x), put_all(t, y), most)
            self.assertEqual(box_walked(net, [end, tuple(s), tuple(t)], most), told)
            tried[told and told[0]] = tried.get(told and told[0], 0) + 1
            if told is None:
                self.assertIsNone(fare)
            elif told[0] == "stopped":
                self.assertEqual((told, fare[0]), (("stopped",), "stopped"))
            elif told[0] == "out":
                other, u, v = told[1]
                self.assertEqual(fare[:4], ("out", other, put_all(u, x), put_all(v, y)))
                self.assertIs(type(told[1]), tuple)
                # It comes out as the box.
                self.assertEqual(box_walked(net, told[1], most), ("out", (end, s, t)))
            wanted = model.walked(net, end, s, t, most)
            if told is None or told[0] == "asks":
                self.assertEqual(told, wanted)
            else:
                self.assertEqual(told, (wanted[0], wanted[1:4]) if wanted[0] == "out" else wanted[:1])
            for pair in meetings(net):
                behind = box_walked(met(net, pair), (end, s, t), most)
                if told is not None and behind is not None:
                    self.assertEqual(behind, told)
        self.assertGreater(min(tried.get(word, 0) for word in ("out", "stopped", "asks")), 5)


class ErrorsTest(unittest.TestCase):
    def test_errors(self):
        for thing in ANYTHING:
            if not isinstance(thing, Net):
                for work in (walk, way):
                    self.assertIs(raised(BadNet, work, thing, None, None, None, None).thing, thing)
                self.assertIs(raised(BadNet, box_walked, thing, None, None).thing, thing)
            for work in (walk, way):
                if thing != "a":
                    self.assertIs(raised(BadEnd, work, AT_REST, thing, None, None, None).thing, thing)
                if not is_endless(thing):
                    self.assertIs(raised(BadEndless, work, AT_REST, "a", thing, ([], []), None).thing, thing)
                    self.assertIs(raised(BadEndless, work, AT_REST, "a", ZEROS, thing, None).thing, thing)
                if not isinstance(thing, int) or thing < 0 or isinstance(thing, bool):
                    self.assertIs(raised(BadMost, work, AT_REST, "a", ZEROS, ZEROS, thing).thing, thing)
                    self.assertIs(raised(BadMost, box_walked, AT_REST, ("a", [], []), thing).thing, thing)
            if thing != ("a", [], []):
                self.assertIs(raised(BadBox, box_walked, AT_REST, thing, None).thing, thing)
        for end in ("w1", "b", "x", ("a",)):
            self.assertIs(raised(BadEnd, walk, AT_REST, end, None, None, None).thing, end)
        for box in (("b", [], []), ("a", [2], []), ("a", [], [True]), ("a", ZEROS, ZEROS), ("w1", [], [])):
            self.assertIs(raised(BadBox, box_walked, AT_REST, box, -1).thing, box)
        self.assertEqual(raised(BadEnd, walk, NOTHING, "a", ZEROS, ZEROS, 0).thing, "a")


class LimitsTest(unittest.TestCase):
    def test_two_thousand_passings(self):
        # Round and round a ring of forks, each time a figure of y is taken, till one is 1.
        net = Net(["a"], [("x", "p", "q", "a"), ("y", "p", "q", "s"), ("stop", "s")], [])
        self.assertEqual(net.cells()[0], ("x", "w1", "w2", "a"))
        y = ([0] * 999 + [1], [0])
        self.assertEqual(walk(net, "a", ZEROS, y, 2001), ("stopped", 2000))
        self.assertIsNone(walk(net, "a", ZEROS, y, 1999))
        self.assertEqual(len(way(net, "a", ZEROS, y, 2000)), 2000)
        self.assertEqual(box_walked(net, ("a", [], [0] * 999), 1999), ("asks", "y"))
        self.assertIsNone(box_walked(net, ("a", [], [0] * 999), 1998))

    def test_piles_grow(self):
        net = Net(["a"], [("x", "p", "q", "a"), ("y", "p", "q", "s"), ("x", "s", "t", "t")], [])
        told = walk(net, "a", ZEROS, ([0] * 900 + [1], [0]), 2000)
        self.assertEqual(told, ("out", "a", ([0] * 899 + [1], [0]), ([1], [0]), 1806))


if __name__ == "__main__":
    unittest.main()
