"""[64], [65]."""

import unittest

import model
from anything import ANYTHING, raised
from samples import AT_REST, AWAY, CROSSED, GROWING, NOTHING, OPENING, THREE, WIRE, nets, open_nets, resting_nets, still_nets
from twinforks.ahead import count_ahead, met_ahead, sorts_ahead
from twinforks.courses import course_sorts
from twinforks.errors import BadIndex, BadMost, BadNet
from twinforks.meetings import meetings, met, sort_of
from twinforks.nets import Net
from twinforks.resting import rest, rest_by, rest_sorts
from twinforks.stills import is_open
from twinforks.things import is_number


class MetAheadTest(unittest.TestCase):
    def test_met_ahead(self):
        self.assertEqual(met_ahead(net=OPENING, index=0, most=0), [1])
        self.assertEqual(met_ahead(OPENING, 1, 0), [0])
        self.assertEqual(met_ahead(Net([], [("stop", "a"), ("stop", "a")], []), 0, 0), [1])
        # To an end, by passings or by none.
        self.assertEqual(met_ahead(CROSSED, 0, 0), [])
        net = Net(["a", "b"], [("x", "a", "p", "q"), ("y", "p", "r", "s"), ("stop", "r"), ("stop", "s"), ("x", "q", "b", "t"), ("stop", "t")], [])
        self.assertEqual([cell[0] for cell in net.cells()], ["x", "x", "y", "stop", "stop", "stop"])
        self.assertEqual([met_ahead(net, index, 1) for index in range(6)], [[], [], [], None, None, None])
        self.assertEqual([met_ahead(net, index, 2) for index in range(6)], [[]] * 6)

    def test_unlike_forks_and_stops(self):
        # An x fork meets a y fork, then goes on by both legs, to a stop and to an end.
        net = Net(["a", "b", "c"], [("x", "w", "a", "b"), ("y", "w", "p", "c"), ("stop", "p")], [])
        self.assertEqual(net.cells(), [("x", "w1", "a", "b"), ("y", "w1", "w2", "c"), ("stop", "w2")])
        self.assertEqual(met_ahead(net, 0, 2), [1, 2])
        # Two passings: one for each way on.
        self.assertIsNone(met_ahead(net, 0, 1))
        # A stop goes on through forks of both kinds, and puts its figure; it takes it again at a back.
        net = Net(["a"], [("stop", "w"), ("x", "w", "p", "q"), ("y", "p", "r", "r"), ("stop", "q"), ("x", "a", "s", "t"), ("stop", "s"), ("stop", "t")], [])
        kinds = [cell[0] for cell in net.cells()]
        stop = [index for index, cell in enumerate(net.cells()) if cell[0] == "stop" and met_ahead(net, index, 100)][0]
        self.assertEqual([kinds[index] for index in met_ahead(net, stop, 100)][:3], ["x", "y", "stop"])

    def test_what_was_put_is_taken(self):
        # From the x fork in at leg 1 of a y fork that meets another one: it takes 1 there, and meets nothing.
        net = Net(["a", "b", "c", "d"], [("x", "p", "a", "b"), ("y", "w", "c", "p"), ("y", "w", "d", "q"), ("stop", "q")], [])
        fork = [index for index, cell in enumerate(net.cells()) if cell[0] == "x"][0]
        self.assertEqual([net.cells()[index][0] for index in met_ahead(net, fork, 2)], ["stop"])
        self.assertIsNone(met_ahead(net, fork, 1))

    def test_for_ever(self):
        for most in (0, 10, 2000):
            self.assertIsNone(met_ahead(AWAY, 0, most))
            self.assertIsNone(met_ahead(GROWING, 0, most))
            self.assertIsNone(count_ahead(AWAY, most))
            self.assertIsNone(sorts_ahead(GROWING, most))

    def test_against_the_model(self):
        tried = 0
        for net in nets(80) + resting_nets(30) + still_nets(40) + open_nets(30):
            for index in range(len(net.cells())):
                told = met_ahead(net, index, 150)
                wanted = model.met_by(net, index, 150)
                if told is None:
                    self.assertTrue(wanted is None or wanted[1] > 150)
                    continue
                self.assertEqual(told, wanted[0])
                self.assertEqual(met_ahead(net, index, wanted[1]), told)
                if wanted[1]:
                    self.assertIsNone(met_ahead(net, index, wanted[1] - 1))
                    tried += 1
        self.assertGreater(tried, 200)


class CountTest(unittest.TestCase):
    def test_counts(self):
        self.assertEqual((count_ahead(net=OPENING, most=0), sorts_ahead(net=OPENING, most=0)), (1, {("x", "x"): 1}))
        self.assertEqual((count_ahead(NOTHING, 0), sorts_ahead(NOTHING, 0)), (0, {}))
        self.assertEqual((count_ahead(WIRE, 0), sorts_ahead(AT_REST, 10)), (0, {}))
        self.assertEqual(list(sorts_ahead(THREE, 8)), [("x", "x"), ("x", "y"), ("y", "y")])
        # All askers together have eight passings.
        self.assertIsNone(sorts_ahead(THREE, 7))
        self.assertIsNone(count_ahead(THREE, 7))

    def test_passings_of_all_together(self):
        for net in resting_nets(40):
            if not is_open(rest(net, 100)[0]):
                continue
            total = sum(model.met_by(net, index, 2000)[1] for index in range(len(net.cells())))
            self.assertIsNotNone(count_ahead(net, total))
            self.assertIsNotNone(sorts_ahead(net, total))
            if total:
                self.assertIsNone(count_ahead(net, total - 1))
                self.assertIsNone(sorts_ahead(net, total - 1))

    def test_the_number_ahead(self):
        """[65]: what every course does till rest, exactly where that is an open net."""
        tried = never = 0
        for net in resting_nets(100, cells=10) + nets(60, 10):
            found = rest(net, 100)
            told = count_ahead(net, 2000)
            if told is None:
                self.assertIsNone(sorts_ahead(net, 2000))
            if found is None or not is_open(found[0]):
                self.assertIsNone(told)
                never += 1
                continue
            self.assertEqual(told, found[1])
            self.assertEqual(sorts_ahead(net, 2000), rest_sorts(net, 100))
            self.assertEqual(list(sorts_ahead(net, 2000)), sorted(rest_sorts(net, 100)))
            for choose in (lambda here, lot: lot[0], lambda here, lot: lot[-1]):
                course = rest_by(net, choose, 100)[1]
                self.assertEqual(len(course), told)
                self.assertEqual(course_sorts(net, course), sorts_ahead(net, 2000))
            tried += 1
        self.assertGreater(tried, 40)
        self.assertGreater(never, 20)

    def test_a_meeting_takes_one_of_each(self):
        for net in resting_nets(40):
            told = sorts_ahead(net, 2000)
            if told is None:
                continue
            for pair in meetings(net):
                behind = sorts_ahead(met(net, pair), 2000)
                less = {sort: told[sort] - (sort == sort_of(net, pair)) for sort in told}
                self.assertEqual(behind, {sort: many for sort, many in less.items() if many})


class ErrorsTest(unittest.TestCase):
    def test_errors(self):
        for thing in ANYTHING:
            if not isinstance(thing, Net):
                self.assertIs(raised(BadNet, met_ahead, thing, None, None).thing, thing)
                for work in (count_ahead, sorts_ahead):
                    self.assertIs(raised(BadNet, work, thing, None).thing, thing)
            if not is_number(thing) or thing > 1:
                self.assertIs(raised(BadIndex, met_ahead, OPENING, thing, None).thing, thing)
            if not is_number(thing):
                self.assertIs(raised(BadMost, met_ahead, OPENING, 0, thing).thing, thing)
                for work in (count_ahead, sorts_ahead):
                    self.assertIs(raised(BadMost, work, OPENING, thing).thing, thing)
        self.assertEqual(raised(BadIndex, met_ahead, NOTHING, 0, 0).thing, 0)


if __name__ == "__main__":
    unittest.main()
