"""[80], and of [81] audit_pairing."""

import unittest

from anything import ANYTHING
from chances import Chance, some_row
from samples import nets, open_nets, still_nets
from twinforks.audits import audit_never, audit_pairing, audit_rest, audit_walk
from twinforks.courses import is_course
from twinforks.meetings import meetings
from twinforks.nets import Net
from twinforks.nevers import is_never, never_paper, never_wrong
from twinforks.papertexts import course_text
from twinforks.plantexts import net_text, read_net
from twinforks.resting import rest_by
from twinforks.stills import pairs, shut
from twinforks.tabletexts import table_text
from twinforks.walking import box_walked, box_walker
from twinforks.ways import is_way
from twinforks.waytexts import read_way, way_text

OPENING = "net a b\nx w a c\nx w b c\n"
FORK = "net a\nx a p p\n"
AWAY = "net a\nx p p a\n"
STOPS = "net a b\nx a p q\nstop p\nstop q\nstop b\n"
PARTS = "part p a b\nx a b c\nstop c\nnet a b\nuse p a w\nuse p w b\n"
NO_TEXTS = [None, 3, b"net\n", ["net\n"], {}, ("net",), True]


def walked_way(net, box):
    """The passings of the walker of a box, as long as it asks for nothing."""
    walker = box_walker(net, box)
    walker.go_far(400)
    return list(walker.passings)


class RestTest(unittest.TestCase):
    def test_by_name(self):
        self.assertIsNone(audit_rest(goal="net a b\njoin a b\nloop\n", course="0 1\n", net=OPENING))

    def test_answers(self):
        for net, course, goal, told in (
                (OPENING, "0 1\n", "net a b\njoin a b\n", ("end", 2)), (OPENING, "0 1\n", "net b a\njoin a b\nloop\n", ("end", 2)),
                (OPENING, "0 2\n", "net a b\njoin a b\nloop\n", ("line", 1, 0)), (OPENING, "0 1\n0 1\n", "net a b\njoin a b\nloop\n", ("line", 1, 1)),
                (OPENING, "", OPENING, ("end", 2)), (FORK, "", FORK, None), ("net\n", "", "net\n", None), ("net\nloop\n", "", "net\nloop\n", None),
                ("net\nloop\n", "", "net\n", ("end", 2)), (PARTS, "", PARTS, None), (OPENING, "0 1\n", "part p\nloop\nnet c d\njoin c d\nuse p\n", ("end", 2)),
                (OPENING, "0 1\n", "part p\nloop\nnet a b\njoin a b\nuse p\n", None), (OPENING, "999999998 999999999\n", OPENING, ("line", 1, 0))):
            self.assertEqual(audit_rest(net, course, goal), told)

    def test_texts_that_are_none(self):
        right = [OPENING, "0 1\n", "net a b\njoin a b\nloop\n"]
        for which, wrong in ((0, ("net a b\nx w a c\nx w b c", 23)), (0, ("", 0)), (0, ("net a a\n", 7)), (1, ("0 1", 3)), (1, ("1 0\n", 2)), (1, ("a", 0)), (2, ("net a b\n", 8)), (2, ("net a b\nstop a\nstop a", 21))):
            texts = list(right)
            texts[which] = wrong[0]
            self.assertEqual(audit_rest(*texts), ("text", which, wrong[1]))
        for thing in NO_TEXTS:
            for which in range(3):
                texts = [*right[:which], thing, *["?"] * (2 - which)]
                self.assertEqual(audit_rest(*texts), ("text", which, -1))

    def test_by_chance(self):
        for net in nets(60):
            found = rest_by(net, lambda here, pairs_here: pairs_here[-1], 40)
            if found is None:
                continue
            behind, course = found
            texts = [net_text(net), course_text(course), net_text(behind)]
            self.assertIsNone(audit_rest(*texts))
            for at in range(len(course)):
                fewer = course[:at] + course[at + 1:]
                if is_course(net, fewer):
                    self.assertEqual(audit_rest(texts[0], course_text(fewer), texts[2]), ("end", 2))
            self.assertEqual(audit_rest(texts[0], course_text([*course, (0, 1)]), texts[2]), ("line", 1, len(course)))


class WalkTest(unittest.TestCase):
    def test_by_name(self):
        self.assertIsNone(audit_walk(way="0 take 0\n0 put 1\n", goes="a 0 - to a 1 -\n", net=FORK))

    def test_answers(self):
        both = "0 take 0\n0 put 1\n"
        for net, goes, way, told in (
                (FORK, "", both, ("end", 1)), (FORK, "a 00 - to a 10 -\n", both, None),
                (FORK, "a 0 0 to a 1 0\na 0 1 to a 1 1\n", both, ("end", 1)), (FORK, "shut a 0 -\nshut a 1 -\n", both, ("end", 1)),
                (FORK, "a 0 - to a 1 -\n", "", ("end", 1)), (FORK, "a 0 - to a 1 -\n", "0 take 0\n", ("end", 1)), (FORK, "a 0 - to a 1 -\n", both + "0 put 1\n", ("line", 2, 2)),
                (FORK, "a 0 - to a 1 -\n", "0 take 1\n0 put 1\n", ("line", 2, 0)), (FORK, "a 0 - to a 1 -\n", "0 take 0\n1 put 1\n", ("line", 2, 1)), (FORK, "a 0 - to a 10 -\n", both, ("end", 1)),
                (FORK, "a 0 - to a 1 1\n", both, ("end", 1)), (FORK, "shut a 0 -\n", both, ("end", 1)), (FORK, "shut a - -\n", both, ("line", 2, 0)), (FORK, "shut a - -\n", "", ("end", 1)),
                (STOPS, "shut a 0 -\n", "0 take 0\n", None), (STOPS, "shut a 0 -\n", "", ("end", 1)), (STOPS, "shut b - -\n", "", None), (STOPS, "a 0 - to b - -\n", "0 take 0\n", ("end", 1)),
                (STOPS, "shut a 0 -\n", "0 take 0\n1 take 0\n", ("line", 2, 1)), (AWAY, "shut a - -\n", "0 put 1\n", ("end", 1)), (AWAY, "shut a - -\n", "", ("end", 1)), ("net a b\njoin a b\n", "a - - to b - -\n", "", None),
                ("net a b\njoin a b\n", "a 01 1 to b 01 1\n", "", None), ("net a b\njoin a b\n", "a 01 1 to b 0 1\n", "", ("end", 1)), (OPENING, "a - - to b - -\n", "0 put 0\n1 take 0\n", None)):
            self.assertEqual(audit_walk(net, goes, way), told, (net, goes, way))

    def test_texts_that_are_none(self):
        right = [FORK, "a 0 - to a 1 -\n", "0 take 0\n0 put 1\n"]
        for which, wrong, at in ((0, "net a\n", 6), (1, "b", 0), (1, "a 0 - to a 1 -", 14), (1, "a 0 - to a 0", 11), (2, "0 take", 6), (2, "0 meet 0\n", 2), (1, "a 0 - to a 1 -\na 1 0 to", 15 + 1 + 2)):
            texts = list(right)
            texts[which] = wrong
            told = audit_walk(*texts)
            self.assertEqual(told[:2], ("text", which))
            if which != 1 or "\n" not in wrong:
                self.assertEqual(told[2], at, wrong)
        for thing in NO_TEXTS:
            for which in range(3):
                texts = [*right[:which], thing, *["?"] * (2 - which)]
                self.assertEqual(audit_walk(*texts), ("text", which, -1))

    def test_by_chance(self):
        told = {}
        for seed, net in enumerate(nets(120)):
            chance = Chance(seed)
            for end in net.ends():
                box = (end, some_row(chance, 6), some_row(chance, 6))
                fare = box_walked(net, box, 300)
                way = walked_way(net, box)
                if fare is None or fare[0] == "asks":
                    continue
                if fare[0] == "stopped":
                    texts = [net_text(net), table_text(net.ends(), [], [box]), way_text(way)]
                else:
                    texts = [net_text(net), table_text(net.ends(), [(box, fare[1])], []), way_text(way)]
                self.assertTrue(is_way(net, box, way))
                self.assertIsNone(audit_walk(*texts))
                told[fare[0]] = told.get(fare[0], 0) + 1
                for at, (index, deed, figure) in enumerate(way):
                    other = way_text([*way[:at], (index, deed, 1 - figure), *way[at + 1:]])
                    self.assertEqual(audit_walk(texts[0], texts[1], other), ("line", 2, at))
                    self.assertEqual(audit_walk(texts[0], texts[1], way_text(way[:at])), ("end", 1))
                self.assertEqual(audit_walk(texts[0], texts[1], way_text([*way, (0, "put", 0)])), ("line", 2, len(way)))
        self.assertGreater(min(told.values()), 20)


class NeverTest(unittest.TestCase):
    def test_by_name(self):
        self.assertIsNone(audit_never(again="0 put 0\n", way="0 put 1\n", shut="shut a - -\n", net=AWAY))

    def test_answers(self):
        for net, shut_text, way, again, told in (
                (AWAY, "", "0 put 1\n", "0 put 0\n", ("end", 1)), (AWAY, "shut a 0 -\nshut a 1 -\n", "0 put 1\n", "0 put 0\n", ("end", 1)),
                (AWAY, "a 0 - to a 1 -\n", "0 put 1\n", "", ("end", 1)), (AWAY, "shut a - -\n", "0 put 1\n", "", ("end", 3)), (AWAY, "shut a - -\n", "9 put 1\n", "", ("end", 3)),
                (AWAY, "shut a - -\n", "", "0 put 1\n", ("end", 3)), (AWAY, "shut a - -\n", "0 put 0\n", "0 put 0\n", ("line", 2, 0)), (AWAY, "shut a - -\n", "0 put 1\n0 put 1\n", "0 put 0\n", ("line", 2, 1)),
                (AWAY, "shut a - -\n", "0 put 1\n", "0 put 0\n0 put 1\n", ("line", 3, 1)), (AWAY, "shut a - -\n", "0 put 1\n", "0 put 1\n", ("line", 3, 0)),
                (AWAY, "shut a - -\n", "0 put 1\n0 put 0\n", "0 put 0\n0 put 0\n", None), (AWAY, "shut a - -\n", "", "0 put 1\n0 put 0\n", ("end", 3)),
                (AWAY, "shut a 01 1\n", "0 put 1\n", "0 put 0\n", None), (AWAY, "a - 0 to a - 1\n", "0 put 1\n", "0 put 0\n", ("end", 1))):
            self.assertEqual(audit_never(net, shut_text, way, again), told, (shut_text, way, again))
        # It goes round along the same wire, but the figure that it takes does not lie there again.
        ring = "net a\ny w l a\nx w l s\nstop s\n"
        told = never_wrong(read_net(ring), (("a", [0, 0], []), [(0, "put", 1)], [(1, "take", 0), (0, "put", 0)]))
        self.assertEqual(told, ("tops",))
        self.assertEqual(audit_never(ring, "shut a 00 -\n", "0 put 1\n", "1 take 0\n0 put 0\n"), ("end", 3))

    def test_texts_that_are_none(self):
        right = [AWAY, "shut a - -\n", "0 put 1\n", "0 put 0\n"]
        for which, wrong, at in ((0, "net\nx", 5), (1, "shut b", 5), (1, "shut a - -", 10), (2, "0 put", 5), (3, "0 put 2", 6)):
            texts = list(right)
            texts[which] = wrong
            self.assertEqual(audit_never(*texts), ("text", which, at))
        for thing in NO_TEXTS:
            for which in range(4):
                texts = [*right[:which], thing, *["?"] * (3 - which)]
                self.assertEqual(audit_never(*texts), ("text", which, -1))

    def test_by_chance(self):
        found = 0
        for seed, net in enumerate(nets(300) + still_nets(100)):
            for end in net.ends():
                chance = Chance(seed)
                paper = never_paper(net, end, (some_row(chance, 3), [0]), (some_row(chance, 3), [1, 0]), 30)
                if paper is None:
                    continue
                found += 1
                box, way, again = paper
                self.assertTrue(is_never(net, paper))
                texts = [net_text(net), table_text(net.ends(), [], [box]), way_text(way), way_text(again)]
                self.assertIsNone(audit_never(*texts))
                for which, passings in ((2, way), (3, again)):
                    for at, (index, deed, figure) in enumerate(passings):
                        other = list(texts)
                        other[which] = way_text([*passings[:at], (index, deed, 1 - figure), *passings[at + 1:]])
                        self.assertEqual(audit_never(*other), ("line", which, at))
                self.assertEqual(audit_never(*texts[:2], texts[2] + texts[3], texts[3]), None)
        self.assertGreater(found, 20)


class PairingTest(unittest.TestCase):
    def test_by_name(self):
        self.assertIsNone(audit_pairing(ways="0 take 0\n0 put 1\n", table="a 0 - to a 1 -\n", net=FORK))

    def test_answers(self):
        both = "0 take 0\n0 put 1\n"
        for net, table, ways, told in (
                (FORK, "a 0 - to a 1 -\n", "0 take 0\n0 put 0\n", ("line", 2, 1)), (FORK, "a 0 - to a 1 -\n", "0 take 1\n0 put 0\n", ("line", 2, 0)),
                (FORK, "a 0 - to a 1 -\n", both + "0 put 1\n", ("line", 2, 2)), (FORK, "a 0 - to a 1 -\n", "0 take 0\n", ("line", 1, 0)), (FORK, "a 0 - to a 1 -\n", "", ("line", 1, 0)),
                (FORK, "a 1 - to a 0 -\n", "0 take 1\n0 put 0\n", None), (FORK, "", "", ("end", 1)), (FORK, "", "0 put 0\n", ("line", 2, 0)),
                (FORK, "a 00 - to a 10 -\n", both, ("end", 1)), (FORK, "a 00 - to a 10 -\na 01 - to a 11 -\n", both + both, None), (FORK, "a 00 - to a 10 -\na 01 - to a 11 -\n", both, ("line", 1, 1)),
                (FORK, "a 00 - to a 11 -\na 01 - to a 10 -\n", both + both, ("line", 1, 0)), (FORK, "a 00 - to a 10 -\na 01 - to a 11 0\n", both + both, ("line", 1, 1)),
                (FORK, "shut a 0 -\nshut a 1 -\n", both + "0 take 1\n0 put 0\n", ("line", 1, 0)), (FORK, "shut a - -\n", "", ("line", 1, 0)), (FORK, "shut a - -\n", both, ("line", 2, 0)),
                (STOPS, "shut a 0 -\nshut a 1 -\nshut b - -\n", "0 take 0\n0 take 1\n", None), (STOPS, "shut a 0 -\nshut b - -\nshut a 1 -\n", "0 take 0\n0 take 1\n", None),
                (STOPS, "shut a 1 -\nshut b - -\nshut a 0 -\n", "0 take 0\n0 take 1\n", ("line", 2, 0)), (STOPS, "shut a 0 -\nshut b - -\n", "0 take 0\n", ("end", 1)),
                (STOPS, "shut a 0 -\nshut b - -\n", "0 take 0\n0 take 1\n", ("line", 2, 1)), (STOPS, "a 0 - to b - -\nshut a 1 -\n", "0 take 0\n0 take 1\n", ("line", 1, 0)),
                ("net\n", "", "", None), ("net\n", "", "0 put 0\n", ("line", 2, 0)), ("net a b\njoin a b\n", "a - - to b - -\n", "", None), ("net a b\njoin a b\n", "b 0 - to a 0 -\na 1 - to b 1 -\n", "", None),
                ("net a b\njoin a b\n", "b 0 - to a 0 -\nshut a 1 -\n", "", ("line", 1, 1)), ("net a b\njoin a b\n", "shut b 1 -\nb 0 - to a 0 -\n", "", ("line", 1, 0)),
                ("net a b\njoin a b\n", "b 0 - to a 0 -\n", "", ("end", 1)),
                # Lines of both kinds, mixed.
                ("net a b\nx a p q\nstop p\nx b r q\nstop r\n", "shut a 0 -\na 1 - to b 1 -\nshut b 0 -\n", "0 take 0\n0 take 1\n1 put 1\n1 take 0\n", None),
                ("net a b\nx a p q\nstop p\nx b r q\nstop r\n", "a 1 - to b 1 -\nshut b 0 -\nshut a 0 -\n", "0 take 1\n1 put 1\n1 take 0\n0 take 0\n", None)):
            self.assertEqual(audit_pairing(net, table, ways), told, (net, table, ways))

    def test_which_wrong_thing_is_told(self):
        """That of the earlier line, of one line its passings first, passings too many behind all lines."""
        table = "a 00 - to a 11 -\na 01 - to a 10 -\n"
        self.assertEqual(audit_pairing(FORK, table, "0 take 0\n0 put 1\n0 take 1\n"), ("line", 1, 0))
        self.assertEqual(audit_pairing(FORK, table, "0 take 0\n0 put 0\n"), ("line", 2, 1))
        table = "a 00 - to a 10 -\na 01 - to a 11 1\n"
        self.assertEqual(audit_pairing(FORK, table, "0 take 0\n0 put 1\n0 take 1\n"), ("line", 2, 2))
        self.assertEqual(audit_pairing(FORK, table, "0 take 0\n0 put 1\n" * 3), ("line", 1, 1))
        self.assertEqual(audit_pairing(FORK, "a 00 - to a 10 -\n", "0 take 0\n0 put 1\n" * 2), ("line", 2, 2))

    def test_never_at_rest(self):
        """What lies in parts to which no walker comes."""
        net = Net(["a"], [("x", "a", "p", "p"), ("x", "w", "v", "s"), ("y", "w", "v", "t"), ("stop", "s"), ("stop", "t")], [])
        self.assertEqual(len(meetings(net)), 1)
        self.assertIsNone(audit_pairing(net_text(net), "a 0 - to a 1 -\n", "0 take 0\n0 put 1\n"))

    def test_texts_that_are_none(self):
        right = [FORK, "a 0 - to a 1 -\n", "0 take 0\n0 put 1\n"]
        for which, wrong, at in ((0, "net a\nx a", 9), (1, "a 0 - to b", 9), (1, "x", 0), (2, "0 take 0\n0 put 1", 16)):
            texts = list(right)
            texts[which] = wrong
            self.assertEqual(audit_pairing(*texts), ("text", which, at))
        for thing in NO_TEXTS:
            for which in range(3):
                texts = [*right[:which], thing, *["?"] * (2 - which)]
                self.assertEqual(audit_pairing(*texts), ("text", which, -1))

    def test_open_nets(self):
        for seed, net in enumerate(open_nets(60)):
            chance = Chance(seed)
            table = []
            for box, goal in pairs(net):
                if (goal, box) not in table:
                    table.append((box, goal))
            table = [pair if chance.below(2) else pair[::-1] for pair in chance.mixed(table)]
            stopped = chance.mixed(shut(net))
            ways = [walked_way(net, box) for box in [pair[0] for pair in table] + stopped]
            text = way_text([passing for way in ways for passing in way])
            texts = [net_text(net), table_text(net.ends(), table, stopped), text]
            self.assertIsNone(audit_pairing(*texts))
            if table and stopped:
                self.assertEqual(audit_pairing(texts[0], table_text(net.ends(), table, stopped[:-1]), way_text([passing for way in ways[:-1] for passing in way])), ("end", 1))
            lines = texts[1].split("\n")[:-1]
            mixed = chance.mixed(list(range(len(lines))))
            self.assertIsNone(audit_pairing(texts[0], "".join(lines[k] + "\n" for k in mixed), way_text([passing for k in mixed for passing in ways[k]])))
            if read_way(text):
                self.assertEqual(audit_pairing(texts[0], texts[1], text + "0 put 0\n"), ("line", 2, len(read_way(text))))

    def test_any_objects(self):
        for thing in ANYTHING:
            for work, many in ((audit_rest, 3), (audit_walk, 3), (audit_never, 4), (audit_pairing, 3)):
                for which in range(many):
                    texts = ["net\n"] * many
                    texts[which] = thing
                    self.assertIn((work(*texts) or ("none",))[0], ("none", "text", "end", "line"))


if __name__ == "__main__":
    unittest.main()
