"""[40], [41]."""

import unittest

import model
from anything import ANYTHING, raised
from chances import Chance, some_table
from samples import AT_REST, AWAY, CROSSED, HALVES, NOTHING, OPENING, RINGS, WIRE, nets, open_nets, still_nets, wander
from twinforks.errors import BadNet, BadOther, NotStill
from twinforks.formrows import alike, form
from twinforks.meetings import meetings
from twinforks.nets import Net
from twinforks.plugging import reordered
from twinforks.stills import opened, pairs, shut
from twinforks.tables import net_of


def longest_row(net):
    return max([len(row) for pair in pairs(net) for box in pair for row in box[1:]] + [len(row) for box in shut(net) for row in box[1:]] + [0])


class FormTest(unittest.TestCase):
    def test_wires(self):
        whole = [(("a", [], []), ("b", [], [])), (("b", [], []), ("a", [], []))]
        self.assertEqual(form(net=WIRE), whole)
        self.assertEqual(form(NOTHING), [])
        self.assertEqual(form(Net(["a"], [("stop", "a")], [])), [])
        # The same pairing, cut by forks.
        self.assertEqual(form(Net(["a", "b"], [("x", "a", "p", "q"), ("x", "b", "p", "q")], [])), whole)
        self.assertEqual(form(Net(["a", "b"], [("y", "a", "p", "q"), ("y", "b", "p", "q")], [])), whole)

    def test_halves(self):
        self.assertEqual(form(HALVES), [(("a", [0], []), ("b", [], [0])), (("b", [], [0]), ("a", [0], []))])
        self.assertEqual(form(CROSSED), [(("a", [0], []), ("b", [1], [])), (("a", [1], []), ("b", [0], [])),
                                         (("b", [0], []), ("a", [1], [])), (("b", [1], []), ("a", [0], []))])
        self.assertEqual(form(AT_REST), [(("a", [0], []), ("a", [1], [])), (("a", [1], []), ("a", [0], []))])

    def test_goals_longer_than_the_box(self):
        # Both halves of a by x go into b's half by y, the figure of x kept.
        net = Net(["a", "b"], [("x", "a", "p", "q"), ("y", "b", "r", "s"), ("x", "r", "p", "q"), ("stop", "s")], [])
        self.assertEqual(form(net), [(("a", [], []), ("b", [], [0])), (("b", [], [0]), ("a", [], []))])

    def test_strips_go_ahead(self):
        """Cut by x ahead of y, whatever the trees do: the row [] is even where finitely many rows of y would do."""
        net = Net(["a", "b", "c"], [("y", "a", "p", "q"), ("y", "b", "p", "r"), ("y", "c", "s", "q"), ("stop", "r"), ("stop", "s")], [])
        self.assertEqual(form(net)[:2], [(("a", [], [0]), ("b", [], [0])), (("a", [], [1]), ("c", [], [1]))])
        net = Net(["a", "b", "c", "d"], [("y", "a", "p", "q"), ("x", "p", "b", "c"), ("x", "q", "d", "r"), ("stop", "r")], [])
        self.assertEqual(form(net)[:3], [(("a", [0], [0]), ("b", [], [])), (("a", [0], [1]), ("d", [], [])), (("a", [1], [0]), ("c", [], []))])

    def test_rings_are_shut(self):
        self.assertEqual(form(RINGS), [])
        self.assertEqual(form(AWAY), [])
        # A stop and a ring in two halves: the whole is shut.
        self.assertTrue(alike(RINGS, opened(RINGS)))

    def test_against_the_model(self):
        tried = 0
        for net in open_nets(150, 3, 6, 8) + still_nets(100, 8) + [HALVES, CROSSED, AT_REST, WIRE]:
            longest = longest_row(net)
            if longest <= 2:
                self.assertEqual(form(net), model.form(net, longest))
                tried += 1
        self.assertGreater(tried, 100)


class AlikeTest(unittest.TestCase):
    def test_alike(self):
        self.assertIs(alike(net=WIRE, other=WIRE), True)
        self.assertIs(alike(WIRE, CROSSED), False)
        self.assertTrue(alike(WIRE, Net(["a", "b"], [("x", "a", "p", "q"), ("x", "b", "p", "q")], [])))
        self.assertTrue(alike(NOTHING, Net([], [("x", "p", "p", "q"), ("stop", "q")], [("l", "l")])))
        self.assertFalse(alike(AT_REST, AWAY))
        self.assertFalse(alike(AWAY, AT_REST))
        self.assertTrue(alike(AWAY, Net(["a"], [("y", "a", "p", "q"), ("stop", "p"), ("stop", "q")], [])))

    def test_cut_otherwise(self):
        """The same pairing behind steps by chance; with a table otherwise another one. Forms are equal exactly if pairings are."""
        for seed in range(80):
            chance = Chance(seed)
            ends = ["a", "b", "c"][:1 + chance.below(3)]
            net = net_of(ends, *some_table(chance, ends, 2 + chance.below(10)))
            one, two = wander(net, chance, 15), wander(net, chance, 15)
            self.assertEqual(form(one), form(two))
            self.assertTrue(alike(one, two))
            other = net_of(ends, *some_table(chance, ends, 2 + chance.below(4)))
            self.assertEqual(form(other) == form(one), alike(one, other))
            self.assertEqual(alike(other, one), alike(one, other))

    def test_against_the_pairing(self):
        """By each box of rows that are long enough."""
        unlike = 0
        all_nets = [net for net in open_nets(200, 2, 5, 4) + still_nets(60, 6) if longest_row(net) <= 3]
        for one, two in zip(all_nets, all_nets[1:]):
            if one.ends() != two.ends():
                continue
            boxes = [(end, s, t) for end in one.ends() for s in model.all_rows(3) for t in model.all_rows(3)]
            wanted = all(model.goes(one, box) == model.goes(two, box) for box in boxes)
            self.assertEqual(alike(one, two), wanted)
            unlike += not wanted
        self.assertGreater(unlike, 20)

    def test_forty_cells(self):
        for seed in range(8):
            chance = Chance(seed)
            ends = ["a", "b", "c", "d", "e", "f"]
            net = wander(net_of(ends, *some_table(chance, ends, 18)), chance, 40, 40)
            self.assertTrue(alike(net, net))
            self.assertEqual(form(net), form(wander(net, chance, 10, 40)))

    def test_twelve_figures(self):
        cells = [("x", f"p{k}" if k else "a", f"p{k + 1}", f"s{k}") for k in range(12)]
        cells += [("y", f"q{k}" if k else "p12", f"q{k + 1}", f"t{k}") for k in range(12)]
        stops = [("stop", f"s{k}") for k in range(12)] + [("stop", f"t{k}") for k in range(12)]
        net = Net(["a", "b"], cells + stops, [("q12", "b")])
        self.assertEqual(form(net), [(("a", [0] * 12, [0] * 12), ("b", [], [])), (("b", [], []), ("a", [0] * 12, [0] * 12))])


class ErrorsTest(unittest.TestCase):
    def test_errors(self):
        for thing in ANYTHING:
            if not isinstance(thing, Net):
                self.assertIs(raised(BadNet, form, thing).thing, thing)
                self.assertIs(raised(BadNet, alike, thing, None).thing, thing)
                self.assertIs(raised(BadOther, alike, WIRE, thing).thing, thing)
        other = reordered(WIRE, ["b", "a"])
        self.assertIs(raised(BadOther, alike, WIRE, other).thing, other)
        self.assertIs(raised(BadOther, alike, WIRE, AWAY).thing, AWAY)

    def test_not_still(self):
        for net in nets(20):
            self.assertEqual(raised(NotStill, form, net).pair, meetings(net)[0])
            self.assertEqual(raised(NotStill, alike, net, None).pair, meetings(net)[0])
        self.assertEqual(raised(NotStill, alike, WIRE, OPENING).pair, (0, 1))
        other = Net(["b", "a"], OPENING.cells(), [])
        self.assertIs(raised(BadOther, alike, WIRE, other).thing, other)


if __name__ == "__main__":
    unittest.main()
