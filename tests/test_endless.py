"""[26]."""

import unittest

from anything import ANYTHING, raised
from chances import Chance, some_endless, some_row
from twinforks.endless import drop_tops, first_unlike, put_all, tops
from twinforks.errors import BadEndless, BadFigures, BadMany, BadOther
from twinforks.forms import figure_at, is_endless, is_row, least_endless


def figures(endless, many=60):
    return [figure_at(endless, k) for k in range(many)]


class EndlessTest(unittest.TestCase):
    def test_by_name(self):
        self.assertEqual(tops(endless=([1], [0]), many=3), [1, 0, 0])
        self.assertEqual(drop_tops(endless=([1], [0]), many=1), ([], [0]))
        self.assertEqual(put_all(figures=[1], endless=([], [0])), ([1], [0]))
        self.assertEqual(first_unlike(endless=([], [0]), other=([0], [1])), 1)

    def test_tops(self):
        self.assertEqual(tops(([1, 1], [0, 1]), 0), [])
        self.assertEqual(tops(([1, 1], [0, 1]), 1), [1])
        self.assertEqual(tops(((1, 1), (0, 1)), 5), [1, 1, 0, 1, 0])
        self.assertEqual(tops(([], [0]), 200), [0] * 200)

    def test_drop_tops(self):
        self.assertEqual(drop_tops(([1, 1], [0, 1]), 0), ([1], [1, 0]))
        self.assertEqual(drop_tops(([1, 1], [0, 0]), 1), ([1], [0]))
        self.assertEqual(drop_tops(((), (0, 1, 1)), 999999999), ([], [0, 1, 1]))
        self.assertEqual(drop_tops(([0, 1], [0, 1, 1]), 999999999), ([], [1, 1, 0]))

    def test_put_all(self):
        self.assertEqual(put_all([], ([0], [0])), ([], [0]))
        self.assertEqual(put_all((0, 1), ((), (0, 1))), ([], [0, 1]))
        self.assertEqual(put_all([1, 0], ([1], [0])), ([1, 0, 1], [0]))

    def test_first_unlike(self):
        self.assertIsNone(first_unlike(([0], [1, 0]), ([], [0, 1])))
        self.assertEqual(first_unlike(([0, 0, 0], [1]), ([], [0])), 3)
        self.assertEqual(first_unlike(([], [0]), ([0, 0, 0], [1])), 3)
        # Just below the longer head's length and both rounds' lengths together.
        self.assertEqual(first_unlike(([], [0, 0, 1]), ([], [0, 0])), 2)
        self.assertEqual(first_unlike(([], [0, 1, 0]), ([], [0, 1, 0, 0, 1])), 6)
        self.assertEqual(first_unlike(([], [0, 1, 0, 0, 1, 0, 1, 0]), ([], [0, 1, 0, 0, 1])), 11)

    def test_by_their_figures(self):
        chance = Chance(11)
        for _ in range(300):
            endless, other = some_endless(chance, 5), some_endless(chance, 5)
            many, row = chance.below(12), some_row(chance, 5)
            self.assertEqual(tops(endless, many), figures(endless, many))
            for told, wanted in ((drop_tops(endless, many), figures(endless, 72)[many:]), (put_all(row, endless), row + figures(endless))):
                self.assertEqual(told, least_endless(told))
                self.assertEqual(figures(told), wanted[:60])
            unlike = [k for k in range(60) if figures(endless)[k] != figures(other)[k]]
            self.assertEqual(first_unlike(endless, other), unlike[0] if unlike else None)
            # Two that tell the same figures are equal arguments.
            again = (list(endless[0]) + list(endless[1]), list(endless[1]) * 2)
            self.assertEqual(drop_tops(again, many), drop_tops(endless, many))
            self.assertEqual(put_all(row, again), put_all(row, endless))
            self.assertIsNone(first_unlike(endless, again))

    def test_what_is_passed_stays_and_what_is_told_is_new(self):
        endless, row = ([0, 1], [1]), [1]
        for work in (lambda: tops(endless, 2), lambda: drop_tops(endless, 0)[0], lambda: drop_tops(endless, 0)[1], lambda: put_all(row, endless)[1]):
            told = work()
            told.append(7)
            self.assertEqual(work(), told[:-1])
        self.assertEqual((endless, row), (([0, 1], [1]), [1]))
        self.assertIs(type(drop_tops([[0], [1]], 1)), tuple)

    def test_errors(self):
        right = ([], [0])
        for thing in ANYTHING:
            if not is_endless(thing):
                self.assertIs(raised(BadEndless, tops, thing, None).thing, thing)
                self.assertIs(raised(BadEndless, drop_tops, thing, None).thing, thing)
                self.assertIs(raised(BadEndless, put_all, [], thing).thing, thing)
                self.assertIs(raised(BadEndless, first_unlike, thing, None).thing, thing)
                self.assertIs(raised(BadOther, first_unlike, right, thing).thing, thing)
            if not is_row(thing):
                self.assertIs(raised(BadFigures, put_all, thing, None).thing, thing)
            if not isinstance(thing, int) or thing < 0 or isinstance(thing, bool):
                self.assertIs(raised(BadMany, tops, right, thing).thing, thing)
                self.assertIs(raised(BadMany, drop_tops, right, thing).thing, thing)


if __name__ == "__main__":
    unittest.main()
