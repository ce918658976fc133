"""[20]."""

import unittest

from anything import ANYTHING, raised
from chances import Chance
from samples import AT_REST, GROWING, NOTHING, THREE, nets
from twinforks.courses import behind_course, course_sorts, course_wrong, is_course
from twinforks.errors import BadCourse, BadNet
from twinforks.meetings import meetings, met, sort_of
from twinforks.nets import Net


def some_course(net, chance, most):
    """A course by chance, and the net behind it."""
    course = []
    while meetings(net) and len(course) < most:
        course.append(chance.one_of(meetings(net)))
        net = met(net, course[-1])
    return course, net


class CoursesTest(unittest.TestCase):
    def test_by_name(self):
        self.assertIsNone(course_wrong(net=THREE, thing=[(0, 1)]))
        self.assertIs(is_course(net=THREE, thing=[(0, 1)]), True)
        self.assertTrue(behind_course(net=THREE, course=[(0, 1)]) == met(THREE, (0, 1)))
        self.assertEqual(course_sorts(net=THREE, course=[(0, 1)]), {("x", "y"): 1})

    def test_an_empty_course(self):
        for net in (NOTHING, AT_REST, THREE):
            for course in ([], ()):
                self.assertIsNone(course_wrong(net, course))
                self.assertTrue(behind_course(net, course) == net)
                self.assertEqual(course_sorts(net, course), {})

    def test_right_courses(self):
        for seed, net in enumerate(nets(80)):
            course, behind = some_course(net, Chance(seed), 12)
            self.assertIsNone(course_wrong(net, course))
            self.assertIs(is_course(net, [list(pair) for pair in course]), True)
            self.assertTrue(behind_course(net, tuple(list(pair) for pair in course)) == behind)
            sorts = {}
            there = net
            for pair in course:
                sorts[sort_of(there, pair)] = sorts.get(sort_of(there, pair), 0) + 1
                there = met(there, pair)
            told = course_sorts(net, course)
            self.assertEqual(told, sorts)
            self.assertEqual(list(told), sorted(told))

    def test_wrong_courses(self):
        for seed, net in enumerate(nets(40)):
            chance = Chance(seed)
            course, _ = some_course(net, chance, 8)
            for at in range(len(course) + 1):
                for wrong in (None, (1, 0), (0, 0), (0, 10 ** 12), "01", [0], (0, 1, 2), (False, True), {}):
                    thing = [*course[:at], wrong, *course[at:]]
                    self.assertEqual(course_wrong(net, thing), ("meeting", at))
                    self.assertIs(is_course(net, thing), False)
                    self.assertEqual(raised(BadCourse, behind_course, net, thing).index, at)
                    self.assertEqual(raised(BadCourse, course_sorts, net, thing).index, at)

    def test_each_pair_is_one_there(self):
        # Behind the only meeting there are others, which are not there ahead of it.
        self.assertEqual(course_wrong(THREE, [(0, 1), (0, 1), (0, 1)]), None)
        self.assertEqual(course_wrong(THREE, [(0, 1), (2, 3), (0, 1)]), None)
        self.assertEqual(course_wrong(THREE, [(2, 3), (0, 1)]), ("meeting", 0))
        self.assertEqual(course_wrong(THREE, [(0, 1), (2, 3), (2, 3)]), ("meeting", 2))
        self.assertEqual(course_wrong(THREE, [(0, 1), (0, 1), (0, 1), (0, 1)]), ("meeting", 3))

    def test_indexes_of_no_cell(self):
        for net in nets(40):
            many = len(net.cells())
            for pair in ((0, many), (many - 1, many), (many, many + 1)):
                self.assertEqual(course_wrong(net, [pair]), ("meeting", 0))
                self.assertEqual(course_wrong(net, [meetings(net)[0], (0, many + 9)]), ("meeting", 1))

    def test_no_list(self):
        for thing in ANYTHING:
            if not isinstance(thing, (list, tuple)):
                self.assertEqual(course_wrong(GROWING, thing), ("form",))
                self.assertEqual(raised(BadCourse, behind_course, GROWING, thing).index, 0)
                self.assertEqual(raised(BadCourse, course_sorts, GROWING, thing).index, 0)
            self.assertIs(is_course(GROWING, thing), course_wrong(GROWING, thing) is None)

    def test_no_net(self):
        for thing in ANYTHING:
            if not isinstance(thing, Net):
                for work in (course_wrong, is_course, behind_course, course_sorts):
                    self.assertIs(raised(BadNet, work, thing, None).thing, thing)

    def test_two_hundred_meetings(self):
        course, behind = some_course(GROWING, Chance(1), 200)
        self.assertEqual(len(course), 200)
        self.assertTrue(behind_course(GROWING, course) == behind)
        self.assertEqual(sum(course_sorts(GROWING, course).values()), 200)


if __name__ == "__main__":
    unittest.main()
