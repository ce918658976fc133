"""[7]."""

import unittest

from anything import ANYTHING, raised
from chances import Chance, some_endless
from twinforks.errors import BadEndless, BadEnds, BadIndex
from twinforks.forms import figure_at, is_box, is_endless, is_row, least_endless


class RowsTest(unittest.TestCase):
    def test_rows(self):
        for row in ([], (), [0], [1, 0, 1], (1, 1), [0] * 60, [1] * 500):
            self.assertIs(is_row(row), True, row)

    def test_no_rows(self):
        for thing in ([2], [-1], [True], [False], ["0"], [0, None], [[0]], "01", "", None, 0, {}, {0: 1}, {0}, [0, 10 ** 40]):
            self.assertIs(is_row(thing), False, thing)

    def test_endless_rows(self):
        for thing in (([], [0]), [[], [0]], ((), (1,)), ([0, 1], [1, 0]), ((0,), [1])):
            self.assertIs(is_endless(thing), True, thing)

    def test_no_endless_rows(self):
        for thing in (([], []), ([0], []), ([0],), ([0], [1], [1]), ([2], [0]), ([0], [True]), [0, 1], "01", None, {}, (),
                      {0: [0], 1: [1]}, ("", "0"), (None, [0])):
            self.assertIs(is_endless(thing), False, thing)

    def test_any_object(self):
        for thing in ANYTHING:
            self.assertIn(is_row(thing), (True, False))
            self.assertIn(is_endless(thing), (True, False))
            self.assertIn(is_box(["a"], thing), (True, False))

    def test_by_name(self):
        self.assertTrue(is_row(thing=[]))
        self.assertTrue(is_endless(thing=([], [1])))
        self.assertEqual(least_endless(endless=([1], [1])), ([], [1]))
        self.assertEqual(figure_at(endless=([1], [0]), index=1), 0)
        self.assertTrue(is_box(ends=["a"], thing=("a", [], [])))


class EndlessTest(unittest.TestCase):
    def test_least(self):
        for endless, least in ((([], [0, 0]), ([], [0])), (([0], [1, 0]), ([], [0, 1])), (([1, 0], [1, 0]), ([], [1, 0])),
                               (([0, 0], [0]), ([], [0])), (([1], [0]), ([1], [0])), (([0, 1, 1], [0, 1, 1, 0, 1, 1]),
                               ([], [0, 1, 1])), (([0, 0, 1], [0, 1]), ([0], [0, 1])), (((1, 1), (0, 1)), ([1], [1, 0])),
                               (([1] * 60, [1] * 60), ([], [1]))):
            self.assertEqual(least_endless(endless), least, endless)

    def test_least_against_all(self):
        chance = Chance(7)
        for _ in range(300):
            endless = some_endless(chance, 5)
            figures = [figure_at(endless, k) for k in range(40)]
            best = None
            for many in range(1, 7):
                for head in range(6):
                    pair = (figures[:head], figures[head:head + many])
                    if best is None and [figure_at(pair, k) for k in range(40)] == figures:
                        best = pair
            self.assertEqual(least_endless(endless), best, endless)

    def test_least_is_new(self):
        endless = ([0], [1])
        told = least_endless(endless)
        told[0].append(1)
        told[1].append(1)
        self.assertEqual(endless, ([0], [1]))
        self.assertEqual(least_endless(endless), ([0], [1]))
        self.assertIs(type(least_endless([[0], [1]])), tuple)
        self.assertIs(type(least_endless([(), (1,)])[0]), list)

    def test_figures(self):
        self.assertEqual([figure_at(([1, 1, 0], [0, 1]), k) for k in range(9)], [1, 1, 0, 0, 1, 0, 1, 0, 1])
        self.assertEqual(figure_at(([], [0, 1, 1]), 999999999), 0)
        self.assertEqual(figure_at(([1], [0, 1]), 999999999), 0)
        self.assertEqual(figure_at(((), (1,)), 0), 1)

    def test_errors(self):
        for thing in (([], []), None, [0, 1], ([0], [2])):
            self.assertIs(raised(BadEndless, least_endless, thing).thing, thing)
            self.assertIs(raised(BadEndless, figure_at, thing, -1).thing, thing)
        for thing in (-1, True, None, "0", [0], 10 ** 30 - 10 ** 31):
            self.assertIs(raised(BadIndex, figure_at, ([], [0]), thing).thing, thing)


class BoxesTest(unittest.TestCase):
    def test_boxes(self):
        for thing in (("a", [], []), ["b", (0,), [1] * 70], ("a", (), (1, 0))):
            self.assertIs(is_box(["a", "b"], thing), True, thing)

    def test_no_boxes(self):
        for thing in (("c", [], []), ("a", []), ("a", [], [], []), ("a", [2], []), ("a", [], None), (0, [], []), "a", None,
                      (["a"], [], []), ("a", "", ""), {"a": 1}):
            self.assertIs(is_box(["a", "b"], thing), False, thing)
        self.assertIs(is_box([], ("a", [], [])), False)
        self.assertIs(is_box((), None), False)

    def test_bad_ends(self):
        for ends, index in ((None, 0), ("ab", 0), ({}, 0), (["a", "a"], 1), (["a", "B"], 1), (["a", "x"], 1), ([0], 0),
                            (["a", "b", ["c"]], 2), (["abcdefghi"], 0), ([""], 0), (["a", "9a"], 1)):
            self.assertEqual(raised(BadEnds, is_box, ends, None).index, index, ends)


if __name__ == "__main__":
    unittest.main()
