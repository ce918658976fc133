"""[33]."""

import unittest

from anything import ANYTHING, raised
from chances import Chance, some_endless, some_row
from samples import AT_REST, AWAY, CROSSED, GROWING, WIRE, nets, still_nets
from test_ways import NO_WAYS
from twinforks.endless import drop_tops, put_all, tops
from twinforks.errors import BadEnd, BadEndless, BadMost, BadNet
from twinforks.forms import is_endless
from twinforks.meetings import meetings, met
from twinforks.nets import Net
from twinforks.nevers import is_never, never_paper, never_wrong
from twinforks.resting import rest
from twinforks.stills import is_open
from twinforks.things import is_number
from twinforks.walking import walk

ZEROS = ([], [0])
PAPER = (("a", [], []), [(0, "put", 1)], [(0, "put", 0)])
# Round and round, and each time a figure of y is taken.
TAKING = Net(["a"], [("x", "p", "q", "a"), ("y", "p", "q", "s"), ("stop", "s")], [])
# Each time a figure of y is taken and put again, or the other figure.
KEEPING = Net(["a"], [("x", "p", "q", "a"), ("y", "p", "r", "s"), ("y", "q", "r", "s")], [])
TURNING = Net(["a"], [("x", "p", "q", "a"), ("y", "p", "r", "s"), ("y", "q", "s", "r")], [])
MIRRORED = Net(["a"], [("y", "p", "q", "a"), ("x", "p", "r", "s"), ("x", "q", "s", "r")], [])


def passings_of(net, end, x, y, many):
    """The first passings of a walker, of which there are so many: an independent going along the names."""
    piles = {"x": tops(x, many), "y": tops(y, many)}
    cells = net.cells()
    wire, came_from, told = end, end, []
    while len(told) < many:
        places = net.places(wire)
        index, place = places[1] if places[0] == came_from else places[0]
        pile = piles[cells[index][0]]
        if place == 0:
            told.append((index, "take", pile.pop(0)))
            leg = told[-1][2] + 1
        else:
            pile.insert(0, place - 1)
            told.append((index, "put", place - 1))
            leg = 0
        came_from, wire = (index, leg), cells[index][leg + 1]
    return told


class NeverWrongTest(unittest.TestCase):
    def test_by_name(self):
        self.assertIsNone(never_wrong(net=AWAY, thing=PAPER))
        self.assertIs(is_never(net=AWAY, thing=PAPER), True)
        self.assertIsNone(never_wrong(AWAY, [["a", (), ()], ([0, "put", 1],), ([0, "put", 0],)]))
        self.assertIsNone(never_wrong(AWAY, (("a", [1, 1], [0]), [(0, "put", 1), (0, "put", 0)], [(0, "put", 0)] * 3)))

    def test_form(self):
        box, way, again = PAPER
        for thing in NO_WAYS:
            self.assertEqual(never_wrong(AWAY, (box, thing, again)), ("form",))
            self.assertEqual(never_wrong(AWAY, (box, way, thing)), ("form",))
        for thing in ANYTHING:
            self.assertEqual(never_wrong(AWAY, thing), ("form",))
            self.assertIs(is_never(AWAY, thing), False)
            if thing != ("a", [], []):
                self.assertEqual(never_wrong(AWAY, (thing, way, again)), ("form",))
        for thing in ((box, way, []), (box, way), (*PAPER, 1), (("b", [], []), way, again), (("w1", [], []), way, again), (("a", [2], []), way, again)):
            self.assertEqual(never_wrong(AWAY, thing), ("form",))

    def test_passing(self):
        box, way, again = PAPER
        self.assertEqual(never_wrong(AWAY, (box, [(0, "put", 0)], again)), ("passing", 0))
        self.assertEqual(never_wrong(AWAY, (box, way, [(0, "put", 1)])), ("passing", 1))
        self.assertEqual(never_wrong(AWAY, (box, way, [again[0], (7, "put", 0)])), ("passing", 2))
        # It asks, it has come out.
        self.assertEqual(never_wrong(TAKING, (("a", [], []), [(0, "put", 1)], [(1, "take", 0), (0, "put", 0)])), ("passing", 1))
        self.assertEqual(never_wrong(AT_REST, (("a", [0], []), [(0, "take", 0), (0, "put", 1)], [(0, "take", 1)])), ("passing", 2))
        self.assertEqual(never_wrong(WIRE, (("a", [0], []), [], [(0, "take", 1)])), ("passing", 0))

    def test_place(self):
        box, way, again = PAPER
        # Ahead of the first passing it goes along another wire; one passing in TAKING is half the round.
        self.assertEqual(never_wrong(AWAY, (box, [], way)), ("place",))
        self.assertEqual(never_wrong(TAKING, (("a", [], [0]), [(0, "put", 1)], [(1, "take", 0)])), ("place",))
        # The wire is the same one, but gone the other way.
        self.assertEqual(never_wrong(CROSSED, (("a", [0], []), [], [(0, "take", 0), (1, "put", 1)])), ("place",))

    def test_tops(self):
        """What round takes must lie there again."""
        again = [(1, "take", 0), (0, "put", 0)]
        self.assertEqual(never_wrong(TAKING, (("a", [], [0]), [(0, "put", 1)], again)), ("tops",))
        self.assertEqual(never_wrong(TAKING, (("a", [], [0, 0, 0]), [(0, "put", 1)], again)), ("tops",))
        self.assertIsNone(never_wrong(AWAY, (("a", [0], [1]), [(0, "put", 1)], [(0, "put", 0), (0, "put", 0)])))

    def test_taken_and_put_again(self):
        for figure in (0, 1):
            again = [(1, "take", figure), (2, "put", figure), (0, "put", 0)]
            for t in ([figure], [figure, 1, 0]):
                self.assertIsNone(never_wrong(KEEPING, (("a", [], t), [(0, "put", 1)], again)))
            other = [(1, "take", figure), (2, "put", 1 - figure), (0, "put", 0)]
            back = [(1, "take", 1 - figure), (2, "put", figure), (0, "put", 0)]
            self.assertEqual(never_wrong(TURNING, (("a", [], [figure]), [(0, "put", 1)], other)), ("tops",))
            self.assertEqual(never_wrong(TURNING, (("a", [], [figure]), [(0, "put", 1)], other + back + other)), ("tops",))
            self.assertIsNone(never_wrong(TURNING, (("a", [], [figure]), [(0, "put", 1)], other + back)))
            # The same with the piles exchanged.
            self.assertEqual(never_wrong(MIRRORED, (("a", [figure], []), [(0, "put", 1)], other)), ("tops",))
            self.assertIsNone(never_wrong(MIRRORED, (("a", [figure], []), [(0, "put", 1)], other + back)))
            self.assertEqual(never_paper(MIRRORED, "a", ([figure], [0, 1]), ZEROS, 7), (("a", [figure], []), [(0, "put", 1)], other + back))
            self.assertEqual(never_paper(TURNING, "a", ZEROS, ([figure], [0, 1]), 7), (("a", [], [figure]), [(0, "put", 1)], other + back))
            self.assertIsNone(never_paper(TURNING, "a", ZEROS, ([figure], [0, 1]), 6))

    def test_only_what_round_takes_counts(self):
        # A ring in which y's figure is taken at one fork and put by another one, x grows: what lies below plays no role.
        net = Net(["a"], [("y", "p", "q", "s"), ("y", "r", "q", "a"), ("x", "p", "r", "t"), ("stop", "s"), ("stop", "t")], [])
        for x in ([], [1], [0, 1, 1]):
            told = never_paper(net, "a", (x, [0]), ZEROS, 50)
            self.assertEqual(told is None, walk(net, "a", (x, [0]), ZEROS, 50) is not None)


class NeverPaperTest(unittest.TestCase):
    def test_never_paper(self):
        self.assertEqual(never_paper(net=AWAY, end="a", x=ZEROS, y=ZEROS, most=2), PAPER)
        self.assertIsNone(never_paper(AWAY, "a", ZEROS, ZEROS, 1))
        self.assertIsNone(never_paper(AT_REST, "a", ZEROS, ZEROS, 200))
        self.assertIsNone(never_paper(WIRE, "a", ZEROS, ZEROS, 200))
        # It takes figures of y for ever, and none lies there again.
        self.assertIsNone(never_paper(TAKING, "a", ZEROS, ZEROS, 200))
        self.assertIsNone(walk(TAKING, "a", ZEROS, ZEROS, 2000))

    def test_papers_are_right_and_there_where_there_is_one(self):
        """One of most passings is there exactly if some part of the walk's passings makes one."""
        tried = [0, 0, 0]
        for seed, net in enumerate(nets(120, 10) + still_nets(60, 12) + [TAKING, TURNING] * 4):
            chance = Chance(seed)
            for end in net.ends():
                x, y = some_endless(chance, 3), (ZEROS if net is TAKING else some_endless(chance, 3))
                told = never_paper(net, end, x, y, 24)
                if walk(net, end, x, y, 24) is not None:
                    self.assertIsNone(told)
                    tried[0] += 1
                    continue
                there = passings_of(net, end, x, y, 24)
                if told is None:
                    box = (end, tops(x, 24), tops(y, 24))
                    for last in range(25):
                        for first in range(last):
                            self.assertFalse(is_never(net, (box, there[:first], there[first:last])))
                    tried[1] += 1
                    continue
                self.assertIsNone(never_wrong(net, told))
                box, way, again = told
                self.assertEqual(there[:len(way) + len(again)], way + again)
                self.assertEqual((box[0], box[1], box[2]), (end, tops(x, len(box[1])), tops(y, len(box[2]))))
                self.assertEqual(never_paper(net, end, x, y, len(way) + len(again)), told)
                tried[2] += 1
        self.assertGreater(min(tried), 3)

    def test_theorem(self):
        """At an address of a paper's box one is under way behind any number of passings, here and behind meetings, and the
        net never comes to rest at an open net."""
        tried = 0
        for seed, net in enumerate(nets(150, 10) + still_nets(60, 12)):
            chance = Chance(seed)
            for end in net.ends():
                told = never_paper(net, end, some_endless(chance, 3), some_endless(chance, 3), 60)
                if told is None:
                    continue
                _, s, t = told[0]
                for _ in range(4):
                    x, y = put_all(s, some_endless(chance, 4)), put_all(t, some_endless(chance, 4))
                    for here in [net] + [met(net, pair) for pair in meetings(net)[:2]]:
                        self.assertIsNone(walk(here, end, x, y, 1000))
                found = rest(net, 60)
                self.assertFalse(found is not None and is_open(found[0]))
                self.assertIsNone(never_wrong(net, ((end, s + some_row(chance, 3), t + some_row(chance, 3)), told[1], told[2])))
                tried += 1
        self.assertGreater(tried, 20)

    def test_equal_rows(self):
        x, y = ([1, 0, 1], [0, 1]), ([], [1, 1])
        self.assertEqual(never_paper(GROWING, "a", x, y, 100), never_paper(GROWING, "a", drop_tops(x, 0), ([1], [1]), 100))

    def test_two_hundred_passings(self):
        for seed, net in enumerate(still_nets(30, 20)):
            for end in net.ends():
                told = never_paper(net, end, ([1], [0, 1, 1]), ([], [0, 1]), 200)
                if told is not None:
                    self.assertIsNone(never_wrong(net, told))


class ErrorsTest(unittest.TestCase):
    def test_errors(self):
        for thing in ANYTHING:
            if not isinstance(thing, Net):
                self.assertIs(raised(BadNet, never_wrong, thing, None).thing, thing)
                self.assertIs(raised(BadNet, is_never, thing, None).thing, thing)
                self.assertIs(raised(BadNet, never_paper, thing, None, None, None, None).thing, thing)
            if thing != "a":
                self.assertIs(raised(BadEnd, never_paper, AWAY, thing, None, None, None).thing, thing)
            if not is_endless(thing):
                self.assertIs(raised(BadEndless, never_paper, AWAY, "a", thing, ([], []), None).thing, thing)
                self.assertIs(raised(BadEndless, never_paper, AWAY, "a", ZEROS, thing, None).thing, thing)
            if not is_number(thing):
                self.assertIs(raised(BadMost, never_paper, AWAY, "a", ZEROS, ZEROS, thing).thing, thing)


if __name__ == "__main__":
    unittest.main()
