"""[67]."""

import unittest

import model
from anything import ANYTHING, raised
from chances import Chance, make_net, some_endless
from samples import AT_REST, AWAY, CROSSED, HALVES, OPENING, RINGS, WIRE, nets, open_nets
from test_plugging import other_names
from twinforks.copying import copied, forked_at, is_without, shut_at, tied_count, without_end
from twinforks.errors import BadEnd, BadKind, BadNames, BadNet, NotOpen, NotStill, NotWithout
from twinforks.meetings import meetings
from twinforks.nets import Net
from twinforks.resting import rest
from twinforks.stills import inner, is_open, pairs, shut, trees
from twinforks.walking import walk

STOP = Net(["a"], [("stop", "a")], [])
BAD_NAMES = [("p",), ("p", "q", "r"), ("p", "p"), ("p", "x"), ("p", "b"), ("b", "q"), ("p", 1), ("p", ["q"]), "pq", {"p": "q"}, ("", "q"), ("p", "P"), None]


def forks_of(net, index):
    """The forks of the tree that begins with a cell, by their indexes."""
    if net.cells()[index][0] == "stop":
        return []
    told = [index]
    for place in (1, 2):
        goal = model.across(net, (index, place))
        if not isinstance(goal, str) and goal[1] == 0:
            told += forks_of(net, goal[0])
    return told


class ShutAtTest(unittest.TestCase):
    def test_shut_at(self):
        self.assertTrue(shut_at(net=WIRE, end="b") == Net(["a"], [("stop", "a")], []))
        self.assertTrue(shut_at(STOP, "a") == Net([], [("stop", "a"), ("stop", "a")], []))
        self.assertTrue(shut_at(HALVES, "a") == Net(["b"], HALVES.cells() + [("stop", "a")], []))
        # Any net, one that is not still too.
        self.assertTrue(shut_at(OPENING, "a") == Net(["b"], OPENING.cells() + [("stop", "a")], []))
        self.assertEqual(shut_at(RINGS, "b").loops(), 1)

    def test_by_names(self):
        for seed in range(60):
            net = make_net(Chance(seed), 1 + seed % 4, seed % 7)
            for end in net.ends():
                cells, joins = other_names(net, "p")
                left = [other for other in net.ends() if other != end]
                joins += [("p" + other, other) for other in left]
                self.assertTrue(shut_at(net, end) == Net(left, cells + [("stop", "p" + end)], joins))
                for names in (("q0", "q1"), (end, "q1"), ("q0", end)):
                    there = []
                    for other in net.ends():
                        there += [other] if other != end else list(names)
                    for kind in ("x", "y"):
                        fork = (kind, "p" + end, "u0", "u1")
                        made = Net(there, cells + [fork], joins + [("u0", names[0]), ("u1", names[1])])
                        self.assertTrue(forked_at(net, end, kind, names) == made)


class ForkedAtTest(unittest.TestCase):
    def test_forked_at(self):
        net = forked_at(net=WIRE, end="a", kind="x", names=("p", "q"))
        self.assertTrue(net == Net(["p", "q", "b"], [("x", "b", "p", "q")], []))
        self.assertTrue(forked_at(WIRE, "b", "y", ["b", "q"]) == Net(["a", "b", "q"], [("y", "a", "b", "q")], []))
        self.assertEqual(meetings(forked_at(AT_REST, "a", "y", ("a", "b"))), [(0, 1)])

    def test_errors(self):
        for work in (shut_at, lambda net, end: forked_at(net, end, None, None)):
            for thing in ANYTHING:
                if not isinstance(thing, Net):
                    self.assertIs(raised(BadNet, work, thing, None).thing, thing)
                if thing != "a":
                    self.assertIs(raised(BadEnd, work, STOP, thing).thing, thing)
        for thing in [*ANYTHING, "stop", ["x"]]:
            if thing not in ("x", "y"):
                self.assertIs(raised(BadKind, forked_at, WIRE, "a", thing, None).thing, thing)
        for names in [*BAD_NAMES, *[thing for thing in ANYTHING if thing not in (("a", "b"), ["a", "b"])]]:
            self.assertIs(raised(BadNames, forked_at, WIRE, "a", "x", names).names, names)


class TiedCountTest(unittest.TestCase):
    def test_tied_count(self):
        self.assertEqual(tied_count(net=WIRE, end="a", kind="x"), 0)
        self.assertEqual([tied_count(STOP, "a", kind) for kind in ("x", "y", "stop")], [1, 1, 1])
        # The fork; its wire, too, where it does not stay at the fork of its own kind.
        self.assertEqual([tied_count(AT_REST, "a", kind) for kind in ("x", "y", "stop")], [1, 2, 2])
        self.assertEqual([tied_count(HALVES, "a", kind) for kind in ("x", "y", "stop")], [1, 2, 2])
        net = Net(["a", "b"], [("x", "a", "p", "q"), ("y", "p", "r", "s"), ("x", "q", "r", "b"), ("stop", "s")], [])
        self.assertEqual([tied_count(net, "a", kind) for kind in ("x", "y", "stop")], [1, 3, 5])

    def test_shutting(self):
        """shut_at comes to rest at without_end behind tied_count meetings."""
        for net in open_nets(100):
            for end in net.ends():
                self.assertEqual(rest(shut_at(net, end), 1000)[1], tied_count(net, end, "stop"))
                self.assertTrue(rest(shut_at(net, end), 1000)[0] == without_end(net, end))

    def test_forking(self):
        """forked_at comes to rest behind tied_count meetings, at copied where the tree is without the kind."""
        copies = 0
        for net in open_nets(120, 4, 6, 3):
            for end in net.ends():
                for kind in ("x", "y"):
                    for names in (("p", "q"), (end, "q"), ["p", end]):
                        found = rest(forked_at(net, end, kind, names), 1000)
                        self.assertEqual(found[1], tied_count(net, end, kind))
                        if is_without(net, end, kind):
                            self.assertTrue(found[0] == copied(net, end, kind, names))
                            copies += 1
        self.assertGreater(copies, 100)


class WithoutEndTest(unittest.TestCase):
    def test_without_end(self):
        self.assertTrue(without_end(net=WIRE, end="a") == Net(["b"], [("stop", "b")], []))
        self.assertTrue(without_end(AT_REST, "a") == Net([], [], []))
        self.assertTrue(without_end(HALVES, "b") == Net(["a"], [("x", "a", "p", "q"), ("stop", "p"), ("stop", "q")], []))
        self.assertEqual(without_end(Net(["a"], [("stop", "a")], [("l", "l")]), "a").loops(), 1)

    def test_what_is_left(self):
        for net in open_nets(60):
            for end in net.ends():
                left = without_end(net, end)
                self.assertTrue(is_open(left))
                self.assertEqual(pairs(left), [pair for pair in pairs(net) if end not in (pair[0][0], pair[1][0])])
                stopped = shut(net) + [pair[0] for pair in pairs(net) if pair[1][0] == end]
                self.assertEqual(sorted(shut(left)), sorted(box for box in stopped if box[0] != end))


class CopiedTest(unittest.TestCase):
    def test_is_without(self):
        self.assertIs(is_without(net=HALVES, end="a", kind="y"), True)
        self.assertIs(is_without(HALVES, "a", "x"), False)
        self.assertTrue(is_without(WIRE, "a", "x"))
        self.assertTrue(is_without(STOP, "a", "y"))
        for net in open_nets(60):
            for end, tree in zip(net.ends(), trees(net)):
                for kind in ("x", "y"):
                    self.assertEqual(is_without(net, end, kind), f"'{kind}'," not in str(tree))

    def test_copied(self):
        self.assertTrue(copied(net=WIRE, end="a", kind="x", names=("p", "q")) == Net(["p", "q", "b"], [("x", "b", "p", "q")], []))
        self.assertTrue(copied(STOP, "a", "x", ("p", "q")) == Net(["p", "q"], [("stop", "p"), ("stop", "q")], []))
        # A wire between two leaves stands in both copies.
        told = copied(AT_REST, "a", "y", ("p", "q"))
        self.assertTrue(told == Net(["p", "q"], [("x", "p", "u", "u"), ("x", "q", "v", "v")], []))
        told = copied(CROSSED, "b", "y", ("b", "c"))
        self.assertEqual(trees(told)[0], ("x", ("y", ("to", ("b", [1], [])), ("to", ("c", [1], []))), ("y", ("to", ("b", [0], [])), ("to", ("c", [0], [])))))
        self.assertEqual(told.ends(), ["a", "b", "c"])
        looped = Net(["a", "b"], [], [("a", "b"), ("l", "l")])
        self.assertEqual(copied(looped, "a", "x", ("p", "q")).loops(), 1)

    def test_walkers(self):
        """Out of the first copy as out of the end, with 0 on the kind's pile at others' leaves."""
        for seed, net in enumerate(open_nets(40)):
            chance = Chance(seed)
            for end in net.ends():
                if not is_without(net, end, "x"):
                    continue
                there = copied(net, end, "x", ("p0", "p1"))
                x, y = some_endless(chance, 3), some_endless(chance, 3)
                told, behind = walk(net, end, x, y, 400), [walk(there, name, x, y, 400) for name in ("p0", "p1")]
                if told[0] == "stopped":
                    self.assertEqual([one[0] for one in behind], ["stopped", "stopped"])
                elif told[1] == end:
                    self.assertEqual([one[1:4] for one in behind], [(name, told[2], told[3]) for name in ("p0", "p1")])
                else:
                    self.assertEqual([one[1] for one in behind], [told[1], told[1]])
                    self.assertEqual([one[3] for one in behind], [told[3], told[3]])

    def test_an_end_called_like_the_first_sign_of_stop(self):
        net = Net(["s", "t"], [("x", "s", "p", "q"), ("y", "t", "p", "r"), ("stop", "q"), ("stop", "r")], [])
        self.assertTrue(without_end(net, "s") == Net(["t"], [("y", "t", "p", "r"), ("stop", "p"), ("stop", "r")], []))
        found = rest(forked_at(net, "s", "y", ("s", "a")), 100)
        self.assertTrue(found[0] == copied(net, "s", "y", ("s", "a")))

    def test_not_without(self):
        self.assertEqual(raised(NotWithout, copied, HALVES, "a", "x", ("p", "q")).index, 0)
        self.assertEqual(raised(NotWithout, copied, HALVES, "b", "y", ("p", "q")).index, 1)
        net = Net(["b", "a"], [("stop", "b"), ("y", "a", "p", "q"), ("x", "p", "r", "r"), ("y", "q", "s", "t"), ("x", "s", "u", "u"), ("stop", "t")], [])
        self.assertEqual(raised(NotWithout, copied, net, "a", "x", ("p", "q")).index, 2)
        for net in open_nets(60):
            for end in net.ends():
                root = model.across(net, end)
                forks = forks_of(net, root[0]) if not isinstance(root, str) and root[1] == 0 else []
                for kind in ("x", "y"):
                    of_kind = [index for index in forks if net.cells()[index][0] == kind]
                    self.assertEqual(is_without(net, end, kind), not of_kind)
                    if of_kind:
                        self.assertEqual(raised(NotWithout, copied, net, end, kind, ("p", "q")).index, min(of_kind))


class ErrorsTest(unittest.TestCase):
    def test_no_open_net(self):
        works = (lambda net: tied_count(net, None, None), lambda net: without_end(net, None), lambda net: is_without(net, None, None),
                 lambda net: copied(net, None, None, None))
        for work in works:
            for thing in ANYTHING:
                if not isinstance(thing, Net):
                    self.assertIs(raised(BadNet, work, thing).thing, thing)
            for net in nets(10):
                self.assertEqual(raised(NotStill, work, net).pair, meetings(net)[0])
            for net in (RINGS, AWAY):
                self.assertEqual(raised(NotOpen, work, net).index, inner(net)[0])

    def test_ends_kinds_names(self):
        for thing in [*ANYTHING, "w1", "b"]:
            if thing != "a":
                for work in (lambda end: tied_count(STOP, end, None), lambda end: without_end(STOP, end), lambda end: is_without(STOP, end, None),
                             lambda end: copied(STOP, end, None, None)):
                    self.assertIs(raised(BadEnd, work, thing).thing, thing)
        for thing in [*ANYTHING, "stop", "z"]:
            if thing not in ("x", "y"):
                self.assertIs(raised(BadKind, is_without, WIRE, "a", thing).thing, thing)
                self.assertIs(raised(BadKind, copied, WIRE, "a", thing, None).thing, thing)
                if thing != "stop":
                    self.assertIs(raised(BadKind, tied_count, WIRE, "a", thing).thing, thing)
        for names in BAD_NAMES:
            self.assertIs(raised(BadNames, copied, WIRE, "a", "x", names).names, names)
            # Names are due ahead of the tree's forks.
            self.assertIs(raised(BadNames, copied, HALVES, "a", "x", names).names, names)


if __name__ == "__main__":
    unittest.main()
