"""[18], [19]."""

import unittest

import model
from anything import ANYTHING, raised
from samples import AT_REST, GROWING, NOTHING, OPENING, THREE, nets
from twinforks.errors import BadNet, BadPair
from twinforks.meetings import meetings, met, sort_of
from twinforks.nets import Net


class MeetingsTest(unittest.TestCase):
    def test_by_name(self):
        self.assertEqual(meetings(net=OPENING), [(0, 1)])
        self.assertEqual(sort_of(net=OPENING, pair=(0, 1)), ("x", "x"))
        self.assertEqual(met(net=OPENING, pair=(0, 1)).cells(), [])

    def test_meetings(self):
        self.assertEqual(meetings(NOTHING), [])
        self.assertEqual(meetings(AT_REST), [])
        self.assertEqual(meetings(Net(["a"], [("x", "p", "p", "a")], [])), [])
        net = Net(["a", "b"], [("x", "p", "a", "q"), ("y", "q", "b", "r"), ("stop", "r"), ("stop", "p"), ("stop", "s"), ("stop", "s")], [])
        self.assertEqual(net.cells(), [("x", "w1", "a", "w2"), ("y", "w2", "b", "w3"), ("stop", "w1"), ("stop", "w3"), ("stop", "w4"), ("stop", "w4")])
        self.assertEqual(meetings(net), [(0, 2), (4, 5)])

    def test_they_are_the_backs_on_one_wire(self):
        for net in nets(60):
            cells = net.cells()
            self.assertEqual(meetings(net), [(i, j) for i in range(len(cells)) for j in range(i + 1, len(cells)) if cells[i][1] == cells[j][1]])
            self.assertTrue(all(type(pair) is tuple for pair in meetings(net)))

    def test_they_are_told_anew(self):
        meetings(OPENING).clear()
        self.assertEqual(meetings(OPENING), [(0, 1)])

    def test_sorts(self):
        for one, other, sort in (("x", "x", ("x", "x")), ("y", "x", ("x", "y")), ("x", "y", ("x", "y")), ("y", "y", ("y", "y"))):
            self.assertEqual(sort_of(Net(["a", "b", "c", "d"], [(one, "m", "a", "b"), (other, "m", "c", "d")], []), [0, 1]), sort)
        for kind in ("x", "y"):
            self.assertEqual(sort_of(Net(["a", "b"], [(kind, "m", "a", "b"), ("stop", "m")], []), (0, 1)), ("stop", kind))
        self.assertEqual(sort_of(Net([], [("stop", "m"), ("stop", "m")], []), (0, 1)), ("stop", "stop"))

    def test_bad_nets(self):
        for thing in ANYTHING:
            if not isinstance(thing, Net):
                self.assertIs(raised(BadNet, meetings, thing).thing, thing)
                self.assertIs(raised(BadNet, sort_of, thing, None).thing, thing)
                self.assertIs(raised(BadNet, met, thing, None).thing, thing)

    def test_bad_pairs(self):
        for net, right in ((OPENING, (0, 1)), (AT_REST, None), (THREE, (0, 1))):
            for thing in [*ANYTHING, (1, 0), [1, 0], (0, 2), (0, 0), (False, True), (0, True), (False, 1), (0, 1, 2), ("0", "1"), (-2, -1), (0, 10 ** 40), {0: 1, 1: 0}]:
                if thing is None or thing != right or any(isinstance(part, bool) for part in thing):
                    self.assertIs(raised(BadPair, sort_of, net, thing).thing, thing)
                    self.assertIs(raised(BadPair, met, net, thing).thing, thing)


class MetTest(unittest.TestCase):
    def check(self, ends, cells, behind, joins=(), loops=0):
        net = Net(ends, cells, [])
        told = met(net, meetings(net)[0])
        wanted = Net(ends, behind, list(joins) + [(f"l{k}", f"l{k}") for k in range(loops)])
        self.assertTrue(told == wanted, (told.cells(), told.joins(), told.loops()))

    def test_alike_forks_open(self):
        for kind in ("x", "y"):
            self.check(["a", "b", "c", "d"], [(kind, "m", "a", "b"), (kind, "m", "c", "d")], [], [("a", "c"), ("b", "d")])

    def test_unlike_forks_pass(self):
        for one, other in (("x", "y"), ("y", "x")):
            self.check(["a", "b", "c", "d"], [(one, "m", "a", "b"), (other, "m", "c", "d")],
                       [(other, "a", "p", "q"), (other, "b", "r", "s"), (one, "c", "p", "r"), (one, "d", "q", "s")])

    def test_stops_shut(self):
        for kind in ("x", "y"):
            self.check(["a", "b"], [(kind, "m", "a", "b"), ("stop", "m")], [("stop", "a"), ("stop", "b")])
            self.check(["a", "b"], [("stop", "m"), (kind, "m", "b", "a")], [("stop", "a"), ("stop", "b")])
        self.check([], [("stop", "m"), ("stop", "m")], [])

    def test_legs_wired_to_one_another(self):
        self.check([], [("x", "m", "a", "b"), ("x", "m", "a", "b")], [], loops=2)
        self.check([], [("x", "m", "a", "b"), ("x", "m", "b", "a")], [], loops=1)
        self.check([], [("x", "m", "a", "a"), ("x", "m", "b", "b")], [], loops=1)
        self.check(["a", "b"], [("x", "m", "c", "a"), ("x", "m", "c", "b")], [], [("a", "b")], loops=1)
        self.check(["a", "b"], [("x", "m", "c", "a"), ("x", "m", "b", "c")], [], [("a", "b")])
        self.check(["a", "b"], [("y", "m", "c", "c"), ("y", "m", "a", "b")], [], [("a", "b")])
        self.check([], [("x", "m", "a", "a"), ("stop", "m")], [("stop", "a"), ("stop", "a")])
        self.check([], [("x", "m", "a", "a"), ("y", "m", "b", "b")],
                   [("y", "a", "p", "q"), ("y", "a", "r", "s"), ("x", "b", "p", "r"), ("x", "b", "q", "s")])
        self.check([], [("x", "m", "a", "b"), ("y", "m", "b", "a")],
                   [("y", "a", "p", "q"), ("y", "b", "r", "s"), ("x", "b", "p", "r"), ("x", "a", "q", "s")])
        self.check(["a", "b"], [("x", "m", "c", "a"), ("y", "m", "c", "b")],
                   [("y", "c", "p", "q"), ("y", "a", "r", "s"), ("x", "c", "p", "r"), ("x", "b", "q", "s")])

    def test_loops_are_kept(self):
        net = Net([], [("stop", "m"), ("stop", "m")], [("l", "l"), ("k", "k")])
        self.assertEqual(met(net, (0, 1)).loops(), 2)

    def test_the_net_ahead_stays(self):
        ahead = Net(OPENING.ends(), OPENING.cells(), [])
        met(OPENING, (0, 1))
        self.assertTrue(OPENING == ahead)

    def test_against_the_model(self):
        for net in nets(150):
            for pair in meetings(net):
                self.assertTrue(met(net, pair) == model.met(net, pair), (net.cells(), pair))

    def test_growing(self):
        net = GROWING
        for _ in range(12):
            self.assertEqual(len(meetings(net)), 1)
            net = met(net, meetings(net)[0])


if __name__ == "__main__":
    unittest.main()
