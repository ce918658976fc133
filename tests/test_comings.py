"""[24]."""

import unittest

from anything import ANYTHING, raised
from samples import AT_REST, GROWING, LOOPING, NOTHING, OPENING, THREE, nets
from twinforks.comings import coming_round, coming_round_wrong, is_coming_round
from twinforks.courses import behind_course
from twinforks.errors import BadMost, BadNet
from twinforks.meetings import meetings, met
from twinforks.nets import Net
from twinforks.resting import rest


def alike(one, other):
    return (one.ends(), one.cells(), one.joins()) == (other.ends(), other.cells(), other.joins())


def by_trying(net, most):
    """The coming round by first meetings, all pairs of nets compared."""
    course, there = [], [net]
    while meetings(there[-1]) and len(course) < most:
        course.append(meetings(there[-1])[0])
        there.append(met(there[-1], course[-1]))
    for first in range(len(there)):
        for second in range(first + 1, len(there)):
            if alike(there[first], there[second]):
                return course[:first], course[first:second]
    return None


def coming_nets():
    told = [net for net in nets(500, 10) if coming_round(net, 30) is not None]
    assert len(told) > 4
    return told


class ComingRoundTest(unittest.TestCase):
    def test_by_name(self):
        self.assertIsNone(coming_round(net=THREE, most=60))
        self.assertEqual(coming_round_wrong(net=THREE, thing=([], [])), ("form",))
        self.assertIs(is_coming_round(net=THREE, thing=([], [])), False)

    def test_nets_that_come_round(self):
        for net in coming_nets():
            told = coming_round(net, 60)
            self.assertEqual(told, by_trying(net, 60))
            course, again = told
            self.assertIs(type(told), tuple)
            self.assertIs(type(course), list)
            self.assertIsNone(coming_round_wrong(net, told))
            self.assertIs(is_coming_round(net, [tuple(list(pair) for pair in course), tuple(again)]), True)
            self.assertTrue(alike(behind_course(net, course), behind_course(net, course + again)))
            many = len(course) + len(again)
            self.assertEqual(coming_round(net, many), told)
            self.assertIsNone(coming_round(net, many - 1))
            self.assertIsNone(coming_round(net, 0))
            # Such a net never comes to rest.
            self.assertIsNone(rest(net, 300))
            # Round may be gone more often, and course may go on along it.
            self.assertIs(is_coming_round(net, (course, again + again)), True)
            turned = behind_course(net, course + again[:1])
            self.assertIs(is_coming_round(net, (course + again[:1], again[1:] + again[:1])), meetings(turned) != [] or len(again) == 1)

    def test_but_for_loops(self):
        told = coming_round(LOOPING, 60)
        self.assertEqual((len(told[0]), len(told[1])), (5, 14))
        self.assertEqual(told, by_trying(LOOPING, 60))
        ahead, behind = behind_course(LOOPING, told[0]), behind_course(LOOPING, told[0] + told[1])
        self.assertLess(ahead.loops(), behind.loops())
        self.assertFalse(ahead == behind)
        self.assertIsNone(coming_round_wrong(LOOPING, told))
        self.assertIsNone(rest(LOOPING, 300))

    def test_wrong_ones(self):
        for net in coming_nets():
            course, again = coming_round(net, 60)
            both = course + again
            for at in range(len(both) + 1):
                for wrong in (None, (1, 0), (0, 10 ** 12), "01"):
                    lists = [*both[:at], wrong, *both[at:]]
                    for cut in range(len(lists)):
                        self.assertEqual(coming_round_wrong(net, (lists[:cut], lists[cut:])), ("meeting", at))
            for cut in range(1, len(again)):
                self.assertEqual(coming_round_wrong(net, (course, again[:cut])), ("end",))
                self.assertIs(is_coming_round(net, (course, again[:cut])), False)
        self.assertEqual(coming_round_wrong(THREE, ([(0, 1)], [(0, 1)])), ("end",))
        self.assertEqual(coming_round_wrong(THREE, ([], [(0, 1)])), ("end",))
        self.assertEqual(coming_round_wrong(GROWING, ([], meetings(GROWING))), ("end",))

    def test_none(self):
        for net in (NOTHING, AT_REST, OPENING, THREE, GROWING):
            self.assertIsNone(coming_round(net, 60))
        for net in nets(60):
            self.assertEqual(coming_round(net, 12), by_trying(net, 12))

    def test_no_pair_of_lists(self):
        for thing in [*ANYTHING, ([], []), ([(0, 1)], []), ([],), ([], [(0, 1)], []), (None, [(0, 1)]), ([], None), ([], "x"), ([], {0: 1}), [[], ()]]:
            if not (isinstance(thing, (list, tuple)) and len(thing) == 2 and all(isinstance(part, (list, tuple)) for part in thing) and thing[1]):
                self.assertEqual(coming_round_wrong(THREE, thing), ("form",))
            self.assertIs(is_coming_round(THREE, thing), False)

    def test_errors(self):
        for thing in ANYTHING:
            if not isinstance(thing, Net):
                for work in (coming_round_wrong, is_coming_round, coming_round):
                    self.assertIs(raised(BadNet, work, thing, None).thing, thing)
            if not isinstance(thing, int) or thing < 0 or isinstance(thing, bool):
                self.assertIs(raised(BadMost, coming_round, NOTHING, thing).thing, thing)


if __name__ == "__main__":
    unittest.main()
