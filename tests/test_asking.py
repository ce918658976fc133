"""[31]."""

import unittest

import model
from anything import ANYTHING, raised
from samples import AT_REST, AWAY, CROSSED, GROWING, HALVES, NOTHING, OPENING, RINGS, THREE, WIRE, nets, open_nets, resting_nets
from twinforks.asking import asked, drawn
from twinforks.errors import BadEnd, BadMost, BadNet
from twinforks.nets import Net
from twinforks.resting import rest
from twinforks.stills import is_open, opened, trees
from twinforks.things import is_number


def forks_in(tree):
    return 1 + forks_in(tree[1]) + forks_in(tree[2]) if tree[0] in ("x", "y") else 0


class AskedTest(unittest.TestCase):
    def test_wires_and_stops(self):
        self.assertEqual(asked(net=WIRE, end="a", most=0), ("to", ("b", [], [])))
        net = Net(["a", "b"], [("stop", "a"), ("y", "b", "p", "q"), ("stop", "p"), ("stop", "q")], [])
        self.assertEqual(asked(net, "a", 0), ("stop",))
        self.assertEqual(asked(net, "b", 2), ("y", ("stop",), ("stop",)))
        self.assertIsNone(asked(net, "b", 1))

    def test_it_asks_both_ways(self):
        self.assertEqual(asked(AT_REST, "a", 4), ("x", ("to", ("a", [1], [])), ("to", ("a", [0], []))))
        # Two passings for the fork where it asks, and one more behind each.
        self.assertIsNone(asked(AT_REST, "a", 3))
        self.assertEqual(asked(OPENING, "a", 99), ("to", ("b", [], [])))

    def test_passings_ahead_count_once(self):
        # A leg's putting, then an asking, then on each way a putting.
        net = Net(["a", "b", "c"], [("x", "w", "a", "b"), ("y", "w", "p", "q"), ("x", "c", "p", "q")], [])
        self.assertEqual(asked(net, "a", 5), ("y", ("to", ("c", [0, 0], [])), ("to", ("c", [1, 0], []))))
        self.assertIsNone(asked(net, "a", 4))
        # What was put is taken again, and nothing is asked.
        net = Net(["a", "b"], [("x", "w", "a", "p"), ("x", "w", "b", "q"), ("stop", "p"), ("stop", "q")], [])
        self.assertEqual((asked(net, "a", 2), asked(net, "a", 1)), (("to", ("b", [], [])), None))

    def test_for_ever(self):
        for most in (0, 1, 50, 400):
            self.assertIsNone(asked(AWAY, "a", most))
            self.assertIsNone(asked(GROWING, "a", most))
            self.assertIsNone(asked(RINGS, "a", most))
            self.assertIsNone(drawn(AWAY, most))
            self.assertIsNone(drawn(GROWING, most))

    def test_against_the_model(self):
        tried = 0
        for net in resting_nets(60) + open_nets(40) + nets(60, 5):
            for end in net.ends():
                told = asked(net, end, 120)
                if told is None:
                    continue
                tree, total = model.asked(net, end, [], [])
                self.assertEqual(told, tree)
                self.assertEqual(asked(net, end, total), told)
                self.assertIsNone(asked(net, end, total - 1) if total else None)
                tried += 1
        self.assertGreater(tried, 150)

    def test_four_hundred_passings(self):
        """A tree as deep as that: a fork on each fork's leg 1."""
        many = 130
        cells = [("x", f"b{k}" if k else "a", f"c{k}", f"b{k + 1}") for k in range(many)]
        net = Net(["a"], cells + [("stop", f"c{k}") for k in range(many)] + [("stop", f"b{many}")], [])
        told = asked(net, "a", 400)
        self.assertEqual(forks_in(told), many)
        self.assertEqual(drawn(net, 2 * many).cells(), net.cells())
        self.assertIsNone(drawn(net, 2 * many - 1))


class DrawnTest(unittest.TestCase):
    def test_drawn(self):
        self.assertTrue(drawn(net=OPENING, most=2) == WIRE)
        self.assertTrue(drawn(THREE, 0) == NOTHING)
        self.assertTrue(drawn(HALVES, 10) == HALVES)
        self.assertTrue(drawn(CROSSED, 10) == CROSSED)
        # Each tree counts for itself.
        self.assertIsNone(drawn(CROSSED, 3))
        self.assertTrue(drawn(CROSSED, 4) == CROSSED)

    def test_the_net_at_rest(self):
        """The theorem: where a net comes to rest at an open net, drawn tells this one but for its loops."""
        tried = 0
        for net in resting_nets(120, cells=10) + nets(60, 10):
            found = rest(net, 100)
            told = drawn(net, 400)
            if told is not None:
                self.assertTrue(is_open(told))
                self.assertEqual(told.loops(), 0)
                self.assertEqual(trees(told), [asked(net, end, 400) for end in net.ends()])
            if found is not None and is_open(found[0]):
                self.assertTrue(told.is_but_loops(found[0]))
                tried += 1
        self.assertGreater(tried, 40)

    def test_open_nets(self):
        for net in open_nets(60):
            told = drawn(net, 400)
            self.assertTrue(told.is_but_loops(net))

    def test_never_at_rest_in_parts_to_which_none_comes(self):
        cells = [("x", "w", "v", "a"), ("y", "w", "v", "b"), ("stop", "a"), ("stop", "b")]
        net = Net(["c", "d"], cells, [("c", "d")])
        self.assertIsNone(rest(net, 50))
        self.assertTrue(drawn(net, 0) == Net(["c", "d"], [], [("c", "d")]))

    def test_rings_that_none_comes_to(self):
        net = Net(["c", "d"], [("x", "p", "p", "q"), ("stop", "q")], [("c", "d")])
        self.assertTrue(drawn(net, 0) == opened(net))


class ErrorsTest(unittest.TestCase):
    def test_errors(self):
        for thing in ANYTHING:
            if not isinstance(thing, Net):
                self.assertIs(raised(BadNet, asked, thing, None, None).thing, thing)
                self.assertIs(raised(BadNet, drawn, thing, None).thing, thing)
            if thing != "a":
                self.assertIs(raised(BadEnd, asked, OPENING, thing, None).thing, thing)
            if not is_number(thing):
                self.assertIs(raised(BadMost, asked, OPENING, "a", thing).thing, thing)
                self.assertIs(raised(BadMost, drawn, OPENING, thing).thing, thing)


if __name__ == "__main__":
    unittest.main()
