"""[61] to [63]."""

import unittest

from anything import ANYTHING, raised
from chances import Chance, make_net, some_table
from samples import AT_REST, AWAY, CROSSED, GROWING, HALVES, NOTHING, OPENING, RINGS, THREE, WIRE, nets, open_nets, still_nets, wander
from test_derivations import done
from twinforks.derivations import derivation
from twinforks.errors import BadMost, BadNet, BadOther, NotOpen, NotStill
from twinforks.formrows import alike
from twinforks.meetings import meetings
from twinforks.nets import Net
from twinforks.partings import compared, parting, parting_wrong
from twinforks.plugging import reordered
from twinforks.resting import rest
from twinforks.stills import inner, is_open, opened
from twinforks.surroundings import fares, is_surroundings, lead
from twinforks.tables import net_of
from twinforks.things import is_number

LEAD = lead(["a", "b"], ("a", [0], []), ("b", [0], []), [("a", [1], []), ("b", [1], [])])
STOPS = Net(["a", "b"], [("stop", "a"), ("stop", "b")], [])


def check_parting(test, one, two, told):
    """It is one by fares, within ten thousand meetings."""
    which, around = told
    test.assertIs(type(told), tuple)
    test.assertIn(which, (0, 1))
    test.assertTrue(is_surroundings(one.ends(), around))
    both = [one, two]
    test.assertEqual(fares(both[which], around, 10000), "wire")
    test.assertEqual(fares(both[1 - which], around, 10000), "stops")
    test.assertIsNone(parting_wrong(one, two, told))


class PartingTest(unittest.TestCase):
    def test_parting(self):
        check_parting(self, WIRE, CROSSED, parting(net=WIRE, other=CROSSED))
        check_parting(self, CROSSED, WIRE, parting(CROSSED, WIRE))
        self.assertIsNone(parting(WIRE, WIRE))
        self.assertIsNone(parting(NOTHING, Net([], [], [("l", "l")])))
        # Where one leads nowhere it is the other that comes to the wire.
        told = parting(STOPS, WIRE)
        check_parting(self, STOPS, WIRE, told)
        self.assertEqual(told[0], 1)
        self.assertEqual(parting(WIRE, STOPS)[0], 0)

    def test_partners_that_meet(self):
        """Boxes lengthened till they are apart: (f, [0], []) and (f, [], [0]), one within the other, at one end."""
        cells = [("x", "b", "p", "s"), ("stop", "s")]
        one = Net(["a", "b"], cells, [("a", "p")])
        for two in (Net(["a", "b"], [("y", "b", "p", "s"), ("stop", "s")], [("a", "p")]),
                    Net(["a", "b"], [("x", "b", "p", "s"), ("x", "p", "q", "t"), ("stop", "s"), ("stop", "t")], [("a", "q")]), WIRE,
                    Net(["a", "b"], [("x", "b", "p", "s"), ("y", "p", "q", "t"), ("stop", "s"), ("stop", "t")], [("a", "q")]),
                    Net(["a", "b"], [("x", "b", "p", "s"), ("y", "p", "q", "t"), ("stop", "s"), ("stop", "q")], [("a", "t")])):
            check_parting(self, one, two, parting(one, two))
            check_parting(self, two, one, parting(two, one))

    def test_one_end_alone(self):
        one = AT_REST
        two = Net(["a"], [("x", "a", "p", "q"), ("x", "p", "r", "s"), ("x", "q", "s", "r")], [])
        three = Net(["a"], [("y", "a", "p", "p")], [])
        for left, right in ((one, two), (two, three), (three, one), (Net(["a"], [("stop", "a")], []), two)):
            check_parting(self, left, right, parting(left, right))
            check_parting(self, right, left, parting(right, left))

    def test_just_one_is_there(self):
        """[62]: of any two open nets with the same ends just one is there, a derivation or a parting."""
        parted = 0
        for seed in range(200):
            chance = Chance(seed)
            ends = ["a", "b", "c", "d"][:1 + chance.below(4)]
            both = []
            for _ in range(2):
                if not both or chance.below(4):
                    net = net_of(ends, *some_table(chance, ends, 2 + chance.below(12)))
                both.append(wander(net, chance, chance.below(12), 36))
            told, steps = parting(*both), derivation(*both)
            self.assertEqual(told is None, steps is not None)
            self.assertEqual(told is None, alike(*both))
            if told is not None:
                check_parting(self, *both, told)
                again = parting(*both)
                self.assertTrue(again[0] == told[0] and again[1] == told[1])
                parted += 1
        self.assertGreater(parted, 100)

    def test_nets_that_are_unlike_in_little(self):
        """Two leaves of one net led to one another's partners."""
        for net in open_nets(60, 3, 14):
            cells = net.cells()
            legs = [(at, place) for at, cell in enumerate(cells) for place in (2, 3) if cell[0] != "stop" and cell[place] in net.wires()]
            for (i, p), (j, q) in zip(legs, legs[1:]):
                changed = [list(cell) for cell in cells]
                changed[i][p], changed[j][q] = changed[j][q], changed[i][p]
                other = Net(net.ends(), changed, net.joins())
                if not is_open(other):
                    continue
                told = parting(net, other)
                if told is None:
                    self.assertTrue(alike(net, other))
                else:
                    check_parting(self, net, other, told)

    def test_ends_called_in_and_out(self):
        one, two = [Net(["in", "out1"], [(cell[0], *[{"a": "in", "b": "out1"}.get(name, name) for name in cell[1:]]) for cell in net.cells()],
                        [("in", "out1")] if net.joins() else []) for net in (WIRE, CROSSED)]
        told = parting(one, two)
        check_parting(self, one, two, told)
        self.assertEqual(told[1].ends(), ["in", "out1", "in2", "out2"])

    def test_deep_leaves(self):
        """Combs of forty cells, unlike in their two last leaves alone."""
        for kinds in ("x" * 10 + "y" * 10, "y" * 10 + "x" * 10, "xy" * 10, "yyx" * 6 + "xx"):
            cells = [(kind, f"{end}{k}" if k else end, f"{end}j{k}", f"{end}{k + 1}") for end in "ab" for k, kind in enumerate(kinds)]
            joins = [(f"aj{k}", f"bj{k}") for k in range(19)]
            one = Net(["a", "b"], cells, joins + [("aj19", "bj19"), ("a20", "b20")])
            two = Net(["a", "b"], cells, joins + [("aj19", "b20"), ("a20", "bj19")])
            check_parting(self, one, two, parting(one, two))


class JudgedTest(unittest.TestCase):
    def test_parting_wrong(self):
        self.assertIsNone(parting_wrong(net=WIRE, other=CROSSED, thing=(0, LEAD)))
        self.assertIsNone(parting_wrong(CROSSED, WIRE, [1, LEAD]))
        self.assertEqual(parting_wrong(WIRE, CROSSED, (1, LEAD)), ("wire",))
        self.assertEqual(parting_wrong(CROSSED, CROSSED, (0, LEAD)), ("wire",))
        self.assertEqual(parting_wrong(WIRE, WIRE, (0, LEAD)), ("stops",))
        self.assertEqual(parting_wrong(WIRE, WIRE, (1, LEAD)), ("stops",))
        # The other one comes to something else.
        bare = lead(["a", "b"], ("a", [], []), ("b", [], []), [])
        self.assertEqual(parting_wrong(WIRE, CROSSED, (0, bare)), ("stops",))
        self.assertEqual(parting_wrong(CROSSED, WIRE, (0, bare)), ("wire",))

    def test_loops_aside(self):
        loops = [Net(net.ends(), net.cells(), net.joins() + [("l", "l")]) for net in (WIRE, CROSSED)]
        self.assertIsNone(parting_wrong(*loops, (0, LEAD)))
        check_parting(self, *loops, parting(*loops))

    def test_form(self):
        for thing in [*ANYTHING, (0,), (0, LEAD, 1), (2, LEAD), (-1, LEAD), (True, LEAD), (False, LEAD), ("0", LEAD), (0, WIRE), (0, None), (LEAD, 0),
                      {0: LEAD}, (0, reordered(LEAD, ["b", "a", "in", "out"]))]:
            self.assertEqual(parting_wrong(WIRE, CROSSED, thing), ("form",))

    def test_any_surroundings(self):
        """By however many meetings: as fares tells where it is given enough of them."""
        tried = set()
        for seed, net in enumerate(open_nets(80, 2, 10)):
            chance = Chance(seed)
            ends = net.ends()
            others = [net_of(ends, *some_table(chance, ends, 2 + chance.below(4))) for _ in range(2)]
            told = parting(net, others[0])
            if told is None:
                continue
            for which in (0, 1):
                both = [net, others[1]]
                wanted = None
                if fares(both[which], told[1], 10 ** 6) != "wire":
                    wanted = ("wire",)
                elif fares(both[1 - which], told[1], 10 ** 6) != "stops":
                    wanted = ("stops",)
                self.assertEqual(parting_wrong(net, others[1], (which, told[1])), wanted)
                tried.add(wanted)
        self.assertEqual(tried, {None, ("wire",), ("stops",)})


class ComparedTest(unittest.TestCase):
    def test_compared(self):
        self.assertEqual(compared(net=WIRE, other=WIRE, most=0), ("alike", []))
        self.assertEqual(compared(OPENING, WIRE, 1), ("alike", [("unloop",)]))
        self.assertIsNone(compared(OPENING, WIRE, 0))
        self.assertIsNone(compared(WIRE, OPENING, 0))
        self.assertIsNone(compared(GROWING, WIRE, 2000))
        told = compared(OPENING, CROSSED, 1)
        self.assertEqual((told[0], len(told)), ("parted", 3))
        self.assertIsNone(parting_wrong(WIRE, CROSSED, told[1:]))
        self.assertEqual(compared(THREE, NOTHING, 3), ("alike", [("unloop",)]))
        # Opened: rings are stops.
        self.assertEqual(compared(AWAY, Net(["a"], [("stop", "a")], []), 0), ("alike", []))

    def test_by_chance(self):
        words = {}
        all_nets = [make_net(Chance(seed), 2, 2 + seed % 5) for seed in range(150)] + [net for net in still_nets(100) if len(net.ends()) == 2]
        all_nets = [Net(["a", "b"], [tuple("a" if name == net.ends()[0] else "b" if name == net.ends()[1] else name for name in cell)
                                     for cell in net.cells()], [("a", "b")] if net.joins() else []) for net in all_nets]
        for one, two in zip(all_nets, all_nets[1:]):
            found = [rest(one, 200), rest(two, 200)]
            told = compared(one, two, 200)
            if None in found:
                self.assertIsNone(told)
                words[None] = words.get(None, 0) + 1
                continue
            left, right = [opened(net) for net, _ in found]
            self.assertIs(type(told), tuple)
            words[told[0]] = words.get(told[0], 0) + 1
            if told[0] == "alike":
                self.assertTrue(done(left, told[1]) == right)
            else:
                check_parting(self, left, right, (told[1], told[2]))
        self.assertGreater(min(words[word] for word in (None, "alike", "parted")), 3)

    def test_errors(self):
        for thing in ANYTHING:
            if not isinstance(thing, Net):
                self.assertIs(raised(BadNet, compared, thing, None, None).thing, thing)
                self.assertIs(raised(BadOther, compared, GROWING, thing, None).thing, thing)
            if not is_number(thing):
                self.assertIs(raised(BadMost, compared, GROWING, OPENING, thing).thing, thing)
        self.assertIs(raised(BadOther, compared, WIRE, AT_REST, 0).thing, AT_REST)


class ErrorsTest(unittest.TestCase):
    def test_errors(self):
        other = reordered(HALVES, ["b", "a"])
        for work in (lambda net, there: parting(net, there), lambda net, there: parting_wrong(net, there, None)):
            for thing in ANYTHING:
                if not isinstance(thing, Net):
                    self.assertIs(raised(BadNet, work, thing, None).thing, thing)
                    self.assertIs(raised(BadOther, work, HALVES, thing).thing, thing)
            self.assertIs(raised(BadOther, work, HALVES, other).thing, other)
            for net in nets(10):
                self.assertEqual(raised(NotStill, work, net, None).pair, meetings(net)[0])
            self.assertEqual(raised(NotOpen, work, RINGS, None).index, inner(RINGS)[0])
            self.assertEqual(raised(NotStill, work, WIRE, OPENING).pair, (0, 1))
            self.assertEqual(raised(NotOpen, work, AT_REST, AWAY).index, 0)


if __name__ == "__main__":
    unittest.main()
