"""What [42] says of share."""

import unittest

import model
from anything import ANYTHING, raised
from samples import AT_REST, AWAY, CROSSED, HALVES, OPENING, RINGS, WIRE, open_nets, still_nets
from twinforks.errors import BadEnd, BadNet, NotStill
from twinforks.nets import Net
from twinforks.shares import share
from twinforks.stills import pairs


class ShareTest(unittest.TestCase):
    def test_share(self):
        self.assertEqual(share(net=WIRE, end="a", goal="b"), (1, 0))
        self.assertEqual(share(WIRE, "a", "a"), (0, 0))
        self.assertEqual(share(CROSSED, "a", "b"), (1, 0))
        self.assertEqual(share(AT_REST, "a", "a"), (1, 0))
        self.assertEqual(share(HALVES, "a", "b"), (1, 1))
        self.assertEqual(share(HALVES, "b", "a"), (1, 1))
        self.assertEqual(share(AWAY, "a", "a"), (0, 0))
        self.assertEqual(share(RINGS, "a", "b"), (0, 0))

    def test_sums(self):
        # The box [0] by x and [1, 0] by x, then [1, 1] by x and [0] by y.
        net = Net(["a", "b", "c"], [("x", "a", "p", "q"), ("x", "q", "r", "s"), ("y", "s", "t", "b"), ("x", "c", "u", "v"), ("x", "v", "p", "r"),
                                    ("stop", "u"), ("stop", "t")], [])
        self.assertEqual(share(net, "a", "c"), (3, 2))
        self.assertEqual(share(net, "c", "a"), (1, 1))
        self.assertEqual(share(net, "a", "b"), (1, 3))
        self.assertEqual(share(net, "b", "a"), (1, 0))

    def test_against_addresses(self):
        tried = 0
        for net in open_nets(60, 3, 8, 4) + still_nets(60, 6):
            if any(len(row) > 3 for pair in pairs(net) for box in pair for row in box[1:]):
                continue
            for end in net.ends():
                goals = [model.goes(net, (end, s, t)) for s in model.all_rows(3) for t in model.all_rows(3)]
                for goal in net.ends():
                    number, power = share(net, end, goal)
                    self.assertEqual(number * 2 ** (6 - power), len([one for one in goals if one is not None and one[0] == goal]))
                    self.assertTrue(number % 2 == 1 or (number, power) == (0, 0))
                    tried += 1
        self.assertGreater(tried, 100)

    def test_long_rows(self):
        cells = [("x", f"p{k}" if k else "a", f"p{k + 1}", f"s{k}") for k in range(12)]
        cells += [("y", f"q{k}" if k else "p12", f"q{k + 1}", f"t{k}") for k in range(12)]
        net = Net(["a", "b"], cells + [("stop", f"{one}{k}") for one in "st" for k in range(12)], [("q12", "b")])
        self.assertEqual((share(net, "a", "b"), share(net, "b", "a")), ((1, 24), (1, 0)))

    def test_errors(self):
        for thing in ANYTHING:
            if not isinstance(thing, Net):
                self.assertIs(raised(BadNet, share, thing, None, None).thing, thing)
            if thing != "a":
                self.assertIs(raised(BadEnd, share, HALVES, thing, None).thing, thing)
                self.assertIs(raised(BadEnd, share, HALVES, "b", thing).thing, thing)
        self.assertEqual(raised(BadEnd, share, HALVES, "w1", "a").thing, "w1")
        self.assertEqual(raised(NotStill, share, OPENING, None, None).pair, (0, 1))


if __name__ == "__main__":
    unittest.main()
