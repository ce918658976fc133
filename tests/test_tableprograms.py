"""[75]."""

import unittest

from anything import ANYTHING, raised
from chances import Chance, some_endless, some_in_out, some_row
from test_programs import lists_for_tuples, tuples_for_lists
from twinforks.compiled import net_of_program
from twinforks.endless import first_unlike, put_all, tops
from twinforks.errors import BadTable
from twinforks.formrows import alike
from twinforks.meanings import meaning
from twinforks.programs import deeds_in, is_program, rounds_in
from twinforks.resting import rest
from twinforks.runs import run
from twinforks.stills import is_open
from twinforks.tableprograms import is_in_out, program_of_table
from twinforks.tables import net_of

TABLE = [(([0], []), ([1, 1], [0])), (([1], [0]), ([0], [])), (([1], [1]), ([1, 0], []))]
NO_PAIRS = [None, (), ([0], [1]), (([0], []),), (([0], []), ([0], []), ([0], [])), (([0],), ([0], [])), (([2], []), ([0], [])), (([0], []), ([0], [True])),
            (([0], []), None), ("01", "01"), (([0], []), 3)]


def boxes_table(table):
    return [(("in", s, t), ("out", u, v)) for (s, t), (u, v) in table]


def meeting_pairs():
    """Pairs that are right but for a box that is not apart from one of TABLE."""
    free = [(([0, 1], [1]), ([0, 1, 0], [0])), (([], []), ([1, 1], [1])), (([], [0, 0]), ([1, 1], [1])), (([1, 1, 1], [1]), ([1, 1], [1]))]
    return [*free, (([0], [0]), ([1, 1], [1]))]


class InOutTest(unittest.TestCase):
    def test_is_in_out(self):
        self.assertIs(is_in_out(thing=TABLE), True)
        for table in (TABLE, [], [(([], []), ([], []))], TABLE[:1], [(([], []), ([0, 1], [1]))], [(([0], []), ([], [0])), (([1], []), ([], [1]))]):
            self.assertTrue(is_in_out(table))
            self.assertTrue(is_in_out(lists_for_tuples(table)))
            self.assertTrue(is_in_out(tuples_for_lists(table)))

    def test_what_is_none(self):
        for thing in ANYTHING:
            self.assertIs(is_in_out(thing), thing in ([], ()))
        for pair in NO_PAIRS:
            self.assertFalse(is_in_out([pair]), pair)
        for pair in meeting_pairs():
            self.assertTrue(is_in_out([pair]))
            self.assertFalse(is_in_out([*TABLE, pair]), pair)
        # The boxes of one side are not compared with those of the other one.
        self.assertTrue(is_in_out([(([0], []), ([1], [])), (([1], []), ([0], []))]))
        self.assertFalse(is_in_out([(([0], []), ([], [])), (([1], []), ([0], []))]))

    def test_forty_pairs(self):
        rows = [[(k >> shift) & 1 for shift in range(6)] for k in range(40)]
        table = [((row + row, []), ([], row[::-1] + row)) for row in rows]
        self.assertTrue(is_in_out(table))
        self.assertFalse(is_in_out([*table, ((rows[7], []), ([], [1] * 12))]))


class ProgramOfTableTest(unittest.TestCase):
    def test_by_name(self):
        self.assertTrue(is_program(program_of_table(table=TABLE)))

    def test_an_empty_table_and_empty_rows(self):
        self.assertEqual(meaning(program_of_table([]), 50), [([], [], ("stopped",))])
        self.assertEqual(meaning(program_of_table([(([], []), ([], []))]), 50), [([], [], ("out", [], []))])
        self.assertEqual(meaning(program_of_table([(([], []), ([0, 1], [1]))]), 50), [([], [], ("out", [0, 1], [1]))])

    def test_by_chance(self):
        for seed in range(120):
            chance = Chance(seed)
            table = some_in_out(chance, 1 + chance.below(8), chance.below(5))
            self.check(table, chance)

    def test_the_greatest(self):
        chance = Chance(5)
        rows = [[(k >> shift) & 1 for shift in range(3)] for k in range(8)]
        long = [row + [chance.below(2) for _ in range(5)] for row in rows]
        for sides in ((long, long[::-1]), (long, chance.mixed(long))):
            for swap in (False, True):
                table = [((s, chance.mixed(s)), (u, chance.mixed(u)) if not swap else (chance.mixed(u), u)) for s, u in zip(*sides)]
                self.check(table, chance)

    def check(self, table, chance):
        self.assertTrue(is_in_out(table))
        program = program_of_table(table)
        self.assertTrue(is_program(program))
        self.assertEqual((rounds_in(program), program), (0, program_of_table(tuples_for_lists(table))))
        self.assertLess(deeds_in(program), 5000)
        net, number = rest(net_of_program(program), 2000)
        self.assertLess(number, 2000)
        self.assertTrue(is_open(net))
        self.assertTrue(alike(net, net_of(["in", "out"], boxes_table(table), [])))
        self.check_runs(program, table, chance)
        for s, t, answer in meaning(program, 2000):
            self.assertEqual(self.by_table(table, (s, [0]), (t, [0]))[0], answer[0])

    def by_table(self, table, x, y):
        """What the table tells of two piles."""
        for (s, t), (u, v) in table:
            if tops(x, len(s)) == s and tops(y, len(t)) == t:
                rest_x, rest_y = [row[len(head):] for row, head in ((tops(x, 60), s), (tops(y, 60), t))]
                return "out", u + rest_x, v + rest_y
        return ("stopped",)

    def check_runs(self, program, table, chance):
        for (s, t), (u, v) in table:
            x, y = some_endless(chance, 5), some_endless(chance, 5)
            told = run(program, put_all(s, x), put_all(t, y), 5000)
            self.assertEqual(told[:3], ("out", put_all(u, x), put_all(v, y)))
        for _ in range(5):
            x, y = (some_row(chance, 20), [chance.below(2)]), (some_row(chance, 20), [chance.below(2)])
            told = run(program, x, y, 5000)
            wanted = self.by_table(table, x, y)
            self.assertEqual(told[0], wanted[0])
            if wanted[0] == "out":
                for pile, row in zip(told[1:3], wanted[1:]):
                    self.assertIsNone(first_unlike((tops(pile, len(row)), [0]), (row, [0])))

    def test_errors(self):
        for thing in ANYTHING:
            if not isinstance(thing, (list, tuple)):
                self.assertEqual(raised(BadTable, program_of_table, thing).index, 0)
        for pair in NO_PAIRS:
            for ahead in range(4):
                self.assertEqual(raised(BadTable, program_of_table, [*TABLE[:ahead], pair, None]).index, ahead)
        for pair in meeting_pairs():
            self.assertEqual(raised(BadTable, program_of_table, [*TABLE, pair, None]).index, 3)

    def test_what_is_told_is_new(self):
        table = [(([], []), ([0], []))]
        told = program_of_table(table)
        told.append(("stop",))
        self.assertEqual((len(program_of_table(table)), table), (len(told) - 1, [(([], []), ([0], []))]))
        program_of_table([]).append(None)
        self.assertTrue(is_program(program_of_table([])))


if __name__ == "__main__":
    unittest.main()
