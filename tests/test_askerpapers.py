"""[66]."""

import unittest

from anything import ANYTHING, raised
from samples import AT_REST, AWAY, GROWING, NOTHING, OPENING, THREE, nets, still_nets
from test_ways import NO_WAYS
from twinforks.askerpapers import asker_wrong, is_asker_paper, never_rests
from twinforks.errors import BadMost, BadNet
from twinforks.meetings import meetings, met
from twinforks.nets import Net
from twinforks.resting import rest
from twinforks.stills import is_open
from twinforks.things import is_number

PAPER = (0, [], [(1, "meet", 0), (0, "put", 0)])
# The asker of the first stop meets an x fork, takes y's figure 0, puts 0 on x and 1 on y, and is there again.
BOTH = Net(["a"], [("y", "p", "s", "h"), ("x", "p", "f", "a"), ("y", "f", "g", "v"), ("x", "h", "g", "z"), ("stop", "s"), ("stop", "v"), ("stop", "z")], [])


def trails(net, index, most):
    """All that the asker from a cell can go with at most so many passings, as lists of (passings, endpoint, x, y), by [64]'s words."""
    cells = net.cells()

    def across(endpoint):
        places = net.places(cells[endpoint[0]][endpoint[1] + 1])
        return places[1] if places[0] == endpoint else places[0]

    left = [[((), across((index, 0)), (), ())]]
    told = []
    while left:
        trail = left.pop()
        told.append(trail)
        passings, endpoint, x, y = trail[-1]
        if len(trail) > most or isinstance(endpoint, str):
            continue
        number, place = endpoint
        kind = cells[number][0]
        if kind == "stop":
            continue
        pile = x if kind == "x" else y
        if place:
            more = [("put", place - 1, 0, (place - 1, *pile))]
        elif pile:
            more = [("take", pile[0], pile[0] + 1, pile[1:])]
        elif kind == cells[index][0]:
            continue
        else:
            more = [("meet", 0, 1, pile), ("meet", 1, 2, pile)]
        for deed, figure, leg, behind in more:
            piles = (behind, y) if kind == "x" else (x, behind)
            left.append(trail + [((*passings, (number, deed, figure)), across((number, leg)), *piles)])
    return told


def wrong_kinds(net, trail, first):
    """The kinds whose figures do not go round as [66] wants it, behind the first passings."""
    last = trail[-1]
    told = []
    for kind, place in (("x", 2), ("y", 3)):
        piles = [one[place] for one in trail[first:]]
        if any(deed == "meet" and net.cells()[number][0] == kind for number, deed, _ in last[0][first:]):
            right = piles[0] == piles[-1]
        else:
            least = min(len(pile) for pile in piles)
            taken = piles[0][:len(piles[0]) - least]
            right = piles[-1][:len(piles[-1]) - least][:len(taken)] == taken
        if not right:
            told.append(kind)
    return told


def is_round(net, trail, first):
    """Whether what the asker does behind its first passings is a round of a paper."""
    return trail[-1][1] == trail[first][1] and not wrong_kinds(net, trail, first)


class AskerWrongTest(unittest.TestCase):
    def test_by_name(self):
        self.assertIsNone(asker_wrong(net=GROWING, thing=PAPER))
        self.assertIs(is_asker_paper(net=GROWING, thing=PAPER), True)
        self.assertIsNone(asker_wrong(GROWING, [0, (), ([1, "meet", 0], [0, "put", 0])]))
        # A round that meets none: round a ring, and figures are put for ever.
        self.assertIsNone(asker_wrong(AWAY, (0, [], [(0, "put", 0)])))

    def test_form(self):
        for thing in [*ANYTHING, (0, [], []), (0, []), (2, [], PAPER[2]), (-1, [], PAPER[2]), (True, [], PAPER[2]), ("0", [], PAPER[2]), (*PAPER, 1),
                      (0, [], [(1, "meets", 0)]), (0, [(1, "meet", 2)], PAPER[2]), (0, None, PAPER[2]), (10 ** 30, [], PAPER[2])]:
            self.assertEqual(asker_wrong(GROWING, thing), ("form",))
            self.assertIs(is_asker_paper(GROWING, thing), False)
        for thing in NO_WAYS:
            if thing != [(0, "meet", 0)]:
                self.assertEqual(asker_wrong(GROWING, (0, thing, PAPER[2])), ("form",))
                self.assertEqual(asker_wrong(GROWING, (0, [], thing)), ("form",))
        self.assertEqual(asker_wrong(NOTHING, PAPER), ("form",))

    def test_passing(self):
        for way, again, index in (([], [(0, "meet", 0)], 0), ([], [(1, "take", 0)], 0), ([], [(1, "put", 0)], 0), ([], [(1, "meet", 0), (0, "put", 1)], 1),
                                  ([], [(1, "meet", 0), (1, "put", 0)], 1), ([(1, "meet", 0), (7, "put", 0)], PAPER[2], 1)):
            self.assertEqual(asker_wrong(GROWING, (0, way, again)), ("passing", index))
        # It ends at a fork of its own kind, at a stop, at an end.
        self.assertEqual(asker_wrong(OPENING, (0, [], [(1, "meet", 0)])), ("passing", 0))
        self.assertEqual(asker_wrong(Net([], [("stop", "a"), ("stop", "a")], []), (0, [], [(1, "meet", 0)])), ("passing", 0))
        self.assertEqual(asker_wrong(AT_REST, (0, [], [(0, "meet", 0)])), ("passing", 0))
        net = Net(["a", "b"], [("x", "w", "a", "b"), ("stop", "w")], [])
        self.assertEqual(asker_wrong(net, (0, [], [(1, "meet", 0)])), ("passing", 0))
        self.assertEqual(asker_wrong(GROWING, (0, [(1, "meet", 1)], [(1, "meet", 0)])), ("passing", 1))

    def test_place(self):
        self.assertEqual(asker_wrong(GROWING, (0, [], [(1, "meet", 0)])), ("place",))
        self.assertEqual(asker_wrong(GROWING, (0, [], [(1, "meet", 1)])), ("place",))
        self.assertEqual(asker_wrong(THREE, (0, [], [(1, "meet", 0)])), ("place",))

    def test_against_the_words(self):
        """All of up to six passings that askers can go, cut at every place."""
        told = {}
        both = 0
        for net in nets(150, 6) + still_nets(20, 6) + [GROWING, AWAY, THREE, BOTH]:
            for index in range(len(net.cells())):
                for trail in trails(net, index, 6):
                    passings = list(trail[-1][0])
                    for first in range(len(passings)):
                        wrong = asker_wrong(net, (index, passings[:first], passings[first:]))
                        if trail[first][1] != trail[-1][1]:
                            self.assertEqual(wrong, ("place",))
                        else:
                            kinds = wrong_kinds(net, trail, first)
                            self.assertEqual(wrong, ("tops", kinds[0]) if kinds else None)
                            both += len(kinds) == 2
                        told[wrong] = told.get(wrong, 0) + 1
        for wrong in (None, ("place",), ("tops", "x"), ("tops", "y")):
            self.assertGreater(told[wrong], 5)
        self.assertGreater(both, 0)

    def test_tops(self):
        """What round takes must lie there again; of a kind that it meets all must be as it was."""
        net = Net([], [("stop", "p"), ("x", "q", "p", "r"), ("y", "s", "t", "q"), ("y", "s", "r", "t")], [])
        self.assertEqual(net.cells()[2], ("y", "w4", "w5", "w2"))
        self.assertEqual(asker_wrong(net, (1, [(2, "put", 1)], [(3, "take", 1), (2, "put", 0)])), ("tops", "y"))
        net = Net(["a"], [("y", "p", "a", "q"), ("stop", "p"), ("x", "r", "q", "s"), ("x", "r", "s", "t"), ("stop", "t")], [])
        self.assertEqual(asker_wrong(net, (4, [(3, "put", 1)], [(2, "take", 1), (3, "put", 0)])), ("tops", "x"))
        net = Net(["a", "b", "c"], [("y", "p", "b", "q"), ("x", "p", "r", "s"), ("y", "t", "q", "u"), ("y", "r", "t", "s"), ("stop", "u")], [("a", "c")])
        self.assertEqual(asker_wrong(net, (1, [], [(0, "meet", 1), (2, "put", 0), (3, "put", 0), (1, "put", 0)])), ("tops", "y"))
        net = Net(["a", "b", "c"], [("x", "p", "a", "q"), ("stop", "b"), ("y", "p", "r", "c"), ("x", "r", "q", "s"), ("stop", "s")], [])
        self.assertEqual(asker_wrong(net, (2, [], [(0, "meet", 1), (3, "put", 0), (2, "put", 0)])), ("tops", "x"))


class NeverRestsTest(unittest.TestCase):
    def test_never_rests(self):
        self.assertEqual(never_rests(net=GROWING, most=2), PAPER)
        self.assertIsNone(never_rests(GROWING, 1))
        self.assertIsNone(never_rests(NOTHING, 12))
        self.assertIsNone(never_rests(THREE, 12))
        # Rounds that meet no fork are none.
        self.assertIsNone(never_rests(AWAY, 12))

    def test_there_is_one_where_there_can_be(self):
        found = none = 0
        for net in nets(80, 6) + [GROWING]:
            wanted = False
            for index in range(len(net.cells())):
                for trail in trails(net, index, 7):
                    deeds = [deed for _, deed, _ in trail[-1][0]]
                    for first in range(len(deeds)):
                        if "meet" in deeds[first:] and is_round(net, trail, first):
                            wanted = True
            told = never_rests(net, 7)
            self.assertEqual(told is not None, wanted)
            if told is None:
                none += 1
            else:
                found += 1
                self.assertIsNone(asker_wrong(net, told))
                self.assertLessEqual(len(told[1]) + len(told[2]), 7)
                self.assertIn("meet", [deed for _, deed, _ in told[2]])
                self.assertEqual(never_rests(net, 7), told)
        self.assertGreater(found, 3)
        self.assertGreater(none, 20)

    def test_theorem(self):
        """Such a net never comes to rest, one with any asker-paper never at an open net."""
        found = 0
        for net in nets(200, 12):
            told = never_rests(net, 12)
            if told is not None:
                self.assertIsNone(rest(net, 300))
                for pair in meetings(net)[:2]:
                    self.assertIsNone(rest(met(net, pair), 200))
                found += 1
        self.assertGreater(found, 10)
        for net in still_nets(100, 8) + nets(60):
            for index in range(len(net.cells())):
                for trail in trails(net, index, 5):
                    passings = list(trail[-1][0])
                    if any(is_asker_paper(net, (index, passings[:first], passings[first:])) for first in range(len(passings))):
                        behind = rest(net, 100)
                        self.assertFalse(behind is not None and is_open(behind[0]))

    def test_errors(self):
        for thing in ANYTHING:
            if not isinstance(thing, Net):
                for work in (asker_wrong, is_asker_paper, never_rests):
                    self.assertIs(raised(BadNet, work, thing, None).thing, thing)
            if not is_number(thing):
                self.assertIs(raised(BadMost, never_rests, GROWING, thing).thing, thing)


if __name__ == "__main__":
    unittest.main()
