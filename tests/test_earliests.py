"""[23]."""

import unittest

import model
from anything import ANYTHING, raised
from chances import Chance
from samples import GROWING, NOTHING, OPENING, THREE, nets, resting_nets
from twinforks.earliests import earliest
from twinforks.errors import BadCourse, BadNet
from twinforks.meetings import meetings, met
from twinforks.nets import Net
from twinforks.resting import rest_by
from twinforks.rounds import schedule


def reached(net):
    """How many cells stand in no closed part: they are told ahead of the others."""
    cells = net.cells()
    first = {pair[1]: pair[0] for pair in net.joins()}
    found = [at for end in net.ends() for at in model.cells_at(cells, first.get(end, end))]
    return len(model.spread(cells, dict.fromkeys(found)))


def open_course(net, chance, most):
    """A course by chance of meetings in no closed part."""
    course = []
    while len(course) < most:
        many = reached(net)
        pairs = [pair for pair in meetings(net) if pair[1] < many]
        if not pairs:
            return course
        course.append(chance.one_of(pairs))
        net = met(net, course[-1])
    return course


class EarliestTest(unittest.TestCase):
    def test_by_name(self):
        self.assertEqual(earliest(net=OPENING, course=[(0, 1)]), [1])

    def test_nothing(self):
        for net in (NOTHING, OPENING, THREE):
            self.assertEqual(earliest(net, []), [])
            self.assertEqual(earliest(net, ()), [])

    def test_two_that_hang_on_nothing(self):
        net = Net(["a", "b", "c", "d"], [("stop", "m"), ("x", "m", "a", "b"), ("stop", "n"), ("y", "n", "c", "d")], [])
        self.assertEqual(earliest(net, [(0, 2), [2, 3]]), [1, 1])

    def test_on_the_one_that_made_a_cell(self):
        net = Net(["a", "b", "c"], [("stop", "m"), ("x", "m", "n", "a"), ("y", "n", "b", "c")], [])
        self.assertEqual(net.cells(), [("x", "w1", "w2", "a"), ("y", "w2", "b", "c"), ("stop", "w1")])
        self.assertEqual(earliest(net, [(0, 2), (1, 2)]), [1, 2])

    def test_on_the_openings_that_joined_the_wire(self):
        # The two forks that meet behind were there ahead, but not on one wire.
        net = Net(["a", "b", "c", "d", "e", "f"], [("x", "m", "p", "a"), ("x", "m", "q", "b"), ("y", "p", "c", "d"), ("y", "q", "e", "f")], [])
        self.assertEqual(meetings(met(net, (0, 1))), [(0, 1)])
        self.assertEqual(earliest(net, [(0, 1), (0, 1)]), [1, 2])
        # Two openings, neither of which hangs on the other one, join one wire.
        ends = ["a", "b", "c", "d", "e", "f", "g", "h"]
        net = Net(ends, [("x", "m", "p", "a"), ("x", "m", "q", "b"), ("y", "p", "e", "f"), ("y", "n", "q", "c"), ("y", "n", "r", "d"),
                         ("y", "r", "g", "h")], [])
        for choose in (lambda there, pairs: pairs[0], lambda there, pairs: pairs[-1]):
            self.assertEqual(earliest(net, rest_by(net, choose, 9)[1]), [1, 1, 2])

    def test_against_the_model(self):
        tried = 0
        for seed, net in enumerate(nets(150, 24)):
            course = open_course(net, Chance(seed), 16)
            hung = model.hung_on(net, course)
            self.assertEqual(earliest(net, course), model.depths(hung), (net.cells(), course))
            tried += any(len(ahead) > 1 for ahead in hung)
        self.assertGreater(tried, 25)

    def test_against_the_schedule(self):
        tried = 0
        for seed, net in enumerate(resting_nets(250)):
            chance = Chance(seed)
            course = rest_by(net, lambda there, pairs: chance.one_of(pairs), 60)[1]
            try:
                told = earliest(net, course)
            except BadCourse:
                continue
            lots = schedule(net, 60)
            self.assertEqual([told.count(k + 1) for k in range(len(lots))], [len(lot) for lot in lots])
            self.assertEqual(max(told), len(lots))
            tried += 1
        self.assertGreater(tried, 30)

    def test_no_meeting_there(self):
        for seed, net in enumerate(nets(40)):
            course = open_course(net, Chance(seed), 5)
            for at in range(len(course) + 1):
                for wrong in (None, (1, 0), (0, 10 ** 12), [0], (0, 1, 2), "01"):
                    self.assertEqual(raised(BadCourse, earliest, net, [*course[:at], wrong, *course[at:]]).index, at)

    def test_in_a_closed_part(self):
        self.assertEqual(raised(BadCourse, earliest, THREE, [(0, 1)]).index, 0)
        net = Net(["a", "b"], [*OPENING.cells(), ("stop", "s"), ("stop", "s")], [])
        self.assertEqual(meetings(net), [(0, 1), (2, 3)])
        self.assertEqual(earliest(net, [(0, 1)]), [1])
        self.assertEqual(raised(BadCourse, earliest, net, [(2, 3)]).index, 0)
        self.assertEqual(raised(BadCourse, earliest, net, [(0, 1), (0, 1)]).index, 1)
        # A part from which the last end has gone is a closed one from then on.
        net = Net(["a", "b"], [("x", "m", "a", "p"), ("x", "m", "b", "q"), ("x", "p", "r", "r"), ("y", "q", "s", "s")], [])
        self.assertEqual(meetings(met(net, (0, 1))), [(0, 1)])
        self.assertEqual(earliest(net, [(0, 1)]), [1])
        self.assertEqual(raised(BadCourse, earliest, net, [(0, 1), (0, 1)]).index, 1)

    def test_errors(self):
        for thing in ANYTHING:
            if not isinstance(thing, Net):
                self.assertIs(raised(BadNet, earliest, thing, None).thing, thing)
            if not isinstance(thing, (list, tuple)):
                self.assertEqual(raised(BadCourse, earliest, GROWING, thing).index, 0)

    def test_many_meetings(self):
        course = open_course(GROWING, Chance(1), 100)
        self.assertEqual(earliest(GROWING, course), list(range(1, 101)))


if __name__ == "__main__":
    unittest.main()
