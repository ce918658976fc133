"""[21]."""

import unittest

from anything import ANYTHING, raised
from chances import Chance
from samples import AT_REST, GROWING, NOTHING, OPENING, THREE, nets, resting_nets
from twinforks.courses import behind_course, course_sorts, is_course
from twinforks.errors import BadChoice, BadMost, BadNet
from twinforks.meetings import meetings, met
from twinforks.nets import Net
from twinforks.resting import rest, rest_by, rest_sorts


def first_of(net, pairs):
    return pairs[0]


def last_of(net, pairs):
    return pairs[-1]


class Stubborn(Exception):
    pass


class RestTest(unittest.TestCase):
    def test_by_name(self):
        self.assertEqual(rest(net=THREE, most=3)[1], 3)
        self.assertEqual(rest_by(net=THREE, choose=first_of, most=3)[1], [(0, 1), (0, 1), (0, 1)])
        self.assertEqual(rest_sorts(net=OPENING, most=1), {("x", "x"): 1})

    def test_at_rest(self):
        for net in (NOTHING, AT_REST, Net(["a"], [("x", "p", "p", "a")], [])):
            for most in (0, 5, 999999999):
                self.assertEqual(rest(net, most), (net, 0))
                self.assertEqual(rest_by(net, None, most), (net, []))
                self.assertEqual(rest_sorts(net, most), {})
        self.assertIs(type(rest(NOTHING, 0)), tuple)

    def test_just_enough_and_one_too_few(self):
        for net in resting_nets(40):
            behind, many = rest(net, 60)
            self.assertEqual(rest(net, many), (behind, many))
            self.assertEqual(rest(net, 999999999), (behind, many))
            self.assertEqual(len(rest_by(net, last_of, many)[1]), many)
            self.assertEqual(sum(rest_sorts(net, many).values()), many)
            for work in (rest, rest_sorts):
                self.assertIsNone(work(net, many - 1))
                self.assertIsNone(work(net, 0))
            self.assertIsNone(rest_by(net, last_of, many - 1))
            self.assertIsNone(rest_by(net, None, 0))

    def test_never(self):
        self.assertIsNone(rest(GROWING, 200))
        self.assertIsNone(rest_by(GROWING, first_of, 60))
        self.assertIsNone(rest_sorts(GROWING, 200))

    def test_one_end_whatever_is_chosen(self):
        for seed, net in enumerate(resting_nets(60)):
            chance = Chance(seed)
            behind, many = rest(net, 60)
            self.assertEqual(meetings(behind), [])
            sorts = rest_sorts(net, 60)
            self.assertEqual(list(sorts), sorted(sorts))
            self.assertTrue(all(number > 0 for number in sorts.values()))
            for choose in (first_of, last_of, lambda here, pairs: chance.one_of(pairs)):
                told, course = rest_by(net, choose, 60)
                self.assertTrue(told == behind)
                self.assertEqual(len(course), many)
                self.assertTrue(is_course(net, course))
                self.assertTrue(behind_course(net, course) == behind)
                self.assertEqual(course_sorts(net, course), sorts)
                self.assertTrue(all(type(pair) is tuple for pair in course))

    def test_each_course_goes_on_to_rest(self):
        for net in resting_nets(30):
            behind, many = rest(net, 60)
            for pair in meetings(net):
                self.assertEqual(rest(met(net, pair), many), (behind, many - 1))

    def test_errors(self):
        for thing in ANYTHING:
            if not isinstance(thing, Net):
                self.assertIs(raised(BadNet, rest, thing, None).thing, thing)
                self.assertIs(raised(BadNet, rest_by, thing, None, None).thing, thing)
                self.assertIs(raised(BadNet, rest_sorts, thing, None).thing, thing)
            if not isinstance(thing, int) or thing < 0 or isinstance(thing, bool):
                self.assertIs(raised(BadMost, rest, NOTHING, thing).thing, thing)
                self.assertIs(raised(BadMost, rest_sorts, NOTHING, thing).thing, thing)
                self.assertIs(raised(BadMost, rest_by, NOTHING, None, thing).thing, thing)

    def test_bad_choices(self):
        for thing in [*ANYTHING, (1, 0), (0, 2), (False, True), [0, True]]:
            if thing != (0, 1):
                self.assertIs(raised(BadChoice, rest_by, THREE, lambda net, pairs: thing, 9).thing, thing)

    def test_bad_most_ahead_of_all_asking(self):
        asked = []
        self.assertEqual(raised(BadMost, rest_by, THREE, lambda *handed: asked.append(handed), -1).thing, -1)
        self.assertEqual(asked, [])

    def test_what_is_handed(self):
        asked = []

        def choose(net, pairs):
            asked.append((net, list(pairs)))
            chosen = list(pairs[-1])
            pairs.clear()
            return chosen
        there, course = rest_by(THREE, choose, 3)
        self.assertEqual(len(asked), 3)
        net = THREE
        for (handed, pairs), pair in zip(asked, course):
            self.assertTrue(handed == net)
            self.assertIsNot(handed, THREE)
            self.assertEqual(pairs, meetings(net))
            net = met(net, pair)
        self.assertTrue(net == there)

    def test_no_asking_behind_most(self):
        asked = []

        def choose(net, pairs):
            asked.append(net)
            return pairs[0]
        self.assertIsNone(rest_by(THREE, choose, 2))
        self.assertEqual(len(asked), 2)
        asked.clear()
        self.assertEqual(len(rest_by(THREE, choose, 3)[1]), 3)
        self.assertEqual(len(asked), 3)

    def test_one_and_the_same_list_may_be_told(self):
        told = [None, None]

        def choose(net, pairs):
            told[0], told[1] = pairs[-1]
            return told
        self.assertEqual(rest_by(THREE, choose, 9)[1], rest_by(THREE, last_of, 9)[1])

    def test_its_errors_go_through(self):
        def choose(net, pairs):
            raise Stubborn()
        with self.assertRaises(Stubborn):
            rest_by(THREE, choose, 3)
        self.assertEqual(rest_by(NOTHING, choose, 3), (NOTHING, []))

    def test_the_net_stays(self):
        ahead = Net(THREE.ends(), THREE.cells(), [])
        rest(THREE, 3)
        self.assertTrue(THREE == ahead)

    def test_many_meetings(self):
        # A row of forks, each at the leg of the one ahead, which a stop shuts one by one; then stops meet.
        cells = [("x", f"b{k}", f"b{k + 1}", f"c{k}") for k in range(79)]
        net = Net([], [("stop", "b0"), *cells, *[("stop", f"c{k}") for k in range(79)], ("stop", "b79")], [])
        self.assertEqual(rest(net, 200), (NOTHING, 159))
        self.assertEqual(rest_sorts(net, 159), {("stop", "stop"): 80, ("stop", "x"): 79})
        self.assertEqual(len(rest_by(net, last_of, 159)[1]), 159)


if __name__ == "__main__":
    unittest.main()
