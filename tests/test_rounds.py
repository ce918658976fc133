"""[22]."""

import itertools
import unittest

from anything import ANYTHING, raised
from chances import Chance
from samples import AT_REST, GROWING, NOTHING, OPENING, THREE, nets, resting_nets
from twinforks.errors import BadLot, BadMost, BadNet
from twinforks.meetings import meetings, met
from twinforks.nets import Net
from twinforks.resting import rest
from twinforks.rounds import all_at_once, is_schedule, schedule, schedule_wrong, some_at_once

TWO = Net(["a", "b", "c", "d"], [("stop", "m"), ("x", "m", "a", "b"), ("stop", "n"), ("y", "n", "c", "d")], [])


def some_schedule(net, chance):
    """A schedule by chance, each lot a part of the meetings."""
    lots = []
    while meetings(net):
        pairs = chance.mixed(meetings(net))
        lots.append(pairs[:1 + chance.below(len(pairs))])
        net = some_at_once(net, lots[-1])
    return lots


def fewest_lots(net):
    """The fewest lots of any schedule, by trying all."""
    pairs = meetings(net)
    if not pairs:
        return 0
    lots = [lot for many in range(1, len(pairs) + 1) for lot in itertools.combinations(pairs, many)]
    return 1 + min(fewest_lots(some_at_once(net, lot)) for lot in lots)


class RoundsTest(unittest.TestCase):
    def test_by_name(self):
        self.assertTrue(some_at_once(net=OPENING, lot=[(0, 1)]) == met(OPENING, (0, 1)))
        self.assertTrue(all_at_once(net=OPENING) == met(OPENING, (0, 1)))
        self.assertEqual(schedule(net=THREE, most=3), [[(0, 1)], [(0, 1), (2, 3)]])
        self.assertIsNone(schedule_wrong(net=THREE, thing=[[(0, 1)], [(0, 1), (2, 3)]]))
        self.assertIs(is_schedule(net=THREE, thing=[]), False)

    def test_some_at_once(self):
        self.assertEqual(meetings(TWO), [(0, 2), (1, 3)])
        both = Net(["a", "b", "c", "d"], [("stop", end) for end in "abcd"], [])
        for lot in ([(0, 2), (1, 3)], ((1, 3), [0, 2])):
            self.assertTrue(some_at_once(TWO, lot) == both)
        self.assertTrue(some_at_once(TWO, [[1, 3]]) == met(TWO, (1, 3)))
        self.assertTrue(all_at_once(TWO) == both)

    def test_in_whatever_order(self):
        for seed, net in enumerate(nets(60, 16)):
            chance = Chance(seed)
            pairs = meetings(net)
            behind = all_at_once(net)
            self.assertTrue(some_at_once(net, chance.mixed(pairs)) == behind)
            lot = chance.mixed(pairs)[:1 + chance.below(len(pairs))]
            there = some_at_once(net, lot)
            self.assertTrue(some_at_once(net, chance.mixed(lot)) == there)
            if len(lot) == 1:
                self.assertTrue(there == met(net, lot[0]))

    def test_at_rest(self):
        for net in (NOTHING, AT_REST):
            self.assertTrue(all_at_once(net) == net)
            self.assertEqual(schedule(net, 0), [])
            self.assertIsNone(schedule_wrong(net, []))
            self.assertIs(is_schedule(net, ()), True)

    def test_bad_lots(self):
        for net in (TWO, AT_REST):
            for thing in [*ANYTHING, [(0, 2), (0, 2)], [(0, 2), (1, 3), [0, 2]], [(0, 2), (2, 0)], [(1, 3), None]]:
                index = 0
                if isinstance(thing, (list, tuple)):
                    stood = []
                    for pair in thing:
                        if not isinstance(pair, (list, tuple)) or tuple(pair) not in meetings(net) or tuple(pair) in stood:
                            break
                        stood.append(tuple(pair))
                    index = len(stood)
                self.assertEqual(raised(BadLot, some_at_once, net, thing).index, index)
        self.assertEqual(raised(BadLot, some_at_once, OPENING, [(False, True)]).index, 0)

    def test_schedules(self):
        for net in resting_nets(50):
            lots = schedule(net, 60)
            there = net
            for lot in lots:
                self.assertEqual(lot, meetings(there))
                self.assertIs(type(lot), list)
                there = all_at_once(there)
            behind, many = rest(net, 60)
            self.assertTrue(there == behind)
            self.assertEqual(sum(len(lot) for lot in lots), many)
            self.assertEqual(schedule(net, many), lots)
            self.assertIsNone(schedule(net, many - 1))
            self.assertIsNone(schedule_wrong(net, lots))
            self.assertIs(is_schedule(net, tuple(tuple(list(pair) for pair in lot) for lot in lots)), True)

    def test_never(self):
        self.assertIsNone(schedule(GROWING, 100))

    def test_none_has_fewer_lots(self):
        tried = 0
        for seed, net in enumerate(resting_nets(60, 6)):
            lots = schedule(net, 60)
            other = some_schedule(net, Chance(seed))
            self.assertIsNone(schedule_wrong(net, other))
            self.assertEqual(sum(len(lot) for lot in lots), sum(len(lot) for lot in other))
            self.assertLessEqual(len(lots), len(other))
            if sum(len(lot) for lot in lots) < 6:
                self.assertEqual(fewest_lots(net), len(lots))
                tried += 1
        self.assertGreater(tried, 20)

    def test_wrong_schedules(self):
        for net in resting_nets(25):
            lots = schedule(net, 60)
            self.assertEqual(schedule_wrong(net, lots[:-1]), ("end",))
            self.assertIs(is_schedule(net, lots[:-1]), False)
            for at in range(len(lots) + 1):
                for wrong in ([], None, [(1, 0)], [None], {}, [(0, 10 ** 10)], "x"):
                    self.assertEqual(schedule_wrong(net, [*lots[:at], wrong, *lots[at:]]), ("lot", at))
                if at < len(lots):
                    self.assertEqual(schedule_wrong(net, [*lots[:at], lots[at] + lots[at][:1]]), ("lot", at))
        self.assertEqual(schedule_wrong(THREE, [[(0, 1)], [(0, 1)]]), ("end",))
        self.assertIsNone(schedule_wrong(THREE, [[(0, 1)], [(0, 1)], [(0, 1)]]))

    def test_no_list(self):
        for thing in ANYTHING:
            if not isinstance(thing, (list, tuple)):
                self.assertEqual(schedule_wrong(AT_REST, thing), ("form",))
            self.assertIs(is_schedule(AT_REST, thing), schedule_wrong(AT_REST, thing) is None)

    def test_errors(self):
        for thing in ANYTHING:
            if not isinstance(thing, Net):
                for work in (some_at_once, schedule, schedule_wrong, is_schedule):
                    self.assertIs(raised(BadNet, work, thing, None).thing, thing)
                self.assertIs(raised(BadNet, all_at_once, thing).thing, thing)
            if not isinstance(thing, int) or thing < 0 or isinstance(thing, bool):
                self.assertIs(raised(BadMost, schedule, GROWING, thing).thing, thing)

    def test_what_is_told_is_new(self):
        lots = schedule(THREE, 3)
        lots[0].clear()
        lots.clear()
        self.assertEqual(schedule(THREE, 3), [[(0, 1)], [(0, 1), (2, 3)]])


if __name__ == "__main__":
    unittest.main()
