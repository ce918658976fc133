"""[82]."""

import unittest

from anything import ANYTHING, raised
from chances import Chance, some_program
from samples import AT_REST, AWAY, CROSSED, GROWING, NOTHING, OPENING, RINGS, WIRE, nets, open_nets, still_nets
from test_programs import NO_DEEDS, lists_for_tuples
from twinforks.asking import drawn
from twinforks.audits import audit_pairing, audit_rest
from twinforks.compiled import net_of_program
from twinforks.derivations import derivation
from twinforks.errors import BadMost, BadNet, BadOther, BadProgram, NotOpen, NotStill
from twinforks.formrows import alike
from twinforks.nets import Net
from twinforks.papers import alike_paper, compiled_paper, pairing_paper, parted_paper, rest_paper
from twinforks.papertexts import read_course
from twinforks.partings import parting
from twinforks.plantexts import net_text, read_net
from twinforks.programs import rounds_in
from twinforks.programtexts import read_program
from twinforks.proofaudits import audit_alike, audit_compiled, audit_parted
from twinforks.resting import rest
from twinforks.stills import is_open, pairs, shut
from twinforks.tables import net_of
from twinforks.tabletexts import read_table


def no_numbers():
    return [thing for thing in ANYTHING if not isinstance(thing, int) or isinstance(thing, bool) or thing < 0]


class RestPaperTest(unittest.TestCase):
    def test_by_name(self):
        self.assertEqual(rest_paper(most=1, net=OPENING), (net_text(OPENING), "0 1\n", "net a b\njoin a b\nloop\n"))

    def test_some(self):
        self.assertIsNone(rest_paper(OPENING, 0))
        self.assertIsNone(rest_paper(GROWING, 50))
        self.assertEqual(rest_paper(NOTHING, 0), ("net\n", "", "net\n"))
        self.assertEqual(rest_paper(RINGS, 0), (net_text(RINGS), "", net_text(RINGS)))

    def test_by_chance(self):
        told = 0
        for net in nets(120) + still_nets(20):
            found = rest(net, 60)
            paper = rest_paper(net, 60)
            self.assertEqual(paper is None, found is None)
            if paper is not None:
                told += 1
                self.assertIs(type(paper), tuple)
                self.assertIsNone(audit_rest(*paper))
                self.assertEqual((read_net(paper[0]), len(read_course(paper[1])), read_net(paper[2])), (net, found[1], found[0]))
                self.assertEqual(rest_paper(net, found[1]), paper)
                self.assertIsNone(rest_paper(net, found[1] - 1) if found[1] else None)
        self.assertGreater(told, 60)

    def test_errors(self):
        for thing in ANYTHING:
            if not isinstance(thing, Net):
                for work in (rest_paper, pairing_paper):
                    self.assertIs(raised(BadNet, work, thing, None).thing, thing)
        for thing in no_numbers():
            for work in (rest_paper, pairing_paper):
                self.assertIs(raised(BadMost, work, OPENING, thing).thing, thing)


class PairingPaperTest(unittest.TestCase):
    def test_by_name(self):
        paper = pairing_paper(most=9, net=AT_REST)
        self.assertIn(paper, [("net a\nx a w1 w1\n", "a 0 - to a 1 -\n", "0 take 0\n0 put 1\n"), ("net a\nx a w1 w1\n", "a 1 - to a 0 -\n", "0 take 1\n0 put 0\n")])
        self.assertIsNone(audit_pairing(*paper))

    def test_some(self):
        self.assertEqual(pairing_paper(NOTHING, 0), ("net\n", "", ""))
        self.assertIsNone(pairing_paper(AWAY, 300))
        self.assertIsNone(audit_pairing(*pairing_paper(WIRE, 0)))
        self.assertIsNone(pairing_paper(CROSSED, 1))
        self.assertIsNone(audit_pairing(*pairing_paper(CROSSED, 9)))

    def test_where_it_never_comes_to_rest(self):
        apart = [("x", "w", "v", "s"), ("y", "w", "v", "t"), ("stop", "s"), ("stop", "t")]
        net = Net(["a", "b"], [*apart, ("x", "a", "p", "q"), ("stop", "p"), ("stop", "q"), ("stop", "b")], [])
        self.assertIsNone(rest(net, 200))
        self.assertIsNone(audit_pairing(*pairing_paper(net, 50)))

    def test_by_chance(self):
        told = 0
        for net in nets(200) + still_nets(40) + open_nets(40):
            found = drawn(net, 100)
            paper = pairing_paper(net, 100)
            self.assertEqual(paper is None, found is None)
            if paper is not None:
                told += 1
                self.assertIsNone(audit_pairing(*paper))
                self.assertEqual(read_net(paper[0]), net)
                table, stopped = read_table(net.ends(), paper[1])
                self.assertEqual(sorted(table + [(goal, box) for box, goal in table]), sorted(pairs(found)))
                self.assertEqual(sorted(stopped), sorted(shut(found)))
                self.assertTrue(alike(net_of(net.ends(), table, stopped), found))
        self.assertGreater(told, 120)

    def test_open_at_rest_have_one(self):
        for seed in range(60):
            program = some_program(Chance(seed), 3, 3)
            if rounds_in(program) == 0:
                self.assertIsNone(audit_pairing(*pairing_paper(net_of_program(program), 400)))


class TwoNetsTest(unittest.TestCase):
    def test_by_name(self):
        self.assertEqual(alike_paper(other=WIRE, net=WIRE), (net_text(WIRE), net_text(WIRE), ""))
        self.assertIsNone(audit_parted(*parted_paper(other=CROSSED, net=WIRE)))

    def test_which_one_comes_first(self):
        stops = Net(["a", "b"], [("stop", "a"), ("stop", "b")], [])
        for one, other in ((WIRE, stops), (stops, WIRE)):
            paper = parted_paper(one, other)
            self.assertEqual(paper[:2], (net_text(WIRE), net_text(stops)))
            self.assertIsNone(audit_parted(*paper))

    def test_just_one_has_a_paper(self):
        told = open_nets(50)
        papers = {"alike": 0, "parted": 0}
        for net in told:
            for other in told:
                if net.ends() != other.ends():
                    continue
                one, two = alike_paper(net, other), parted_paper(net, other)
                self.assertEqual((one is None, two is None), (derivation(net, other) is None, parting(net, other) is None))
                self.assertNotEqual(one is None, two is None)
                if one is not None:
                    papers["alike"] += 1
                    self.assertIsNone(audit_alike(*one))
                    self.assertEqual([read_net(text) for text in one[:2]], [net, other])
                else:
                    papers["parted"] += 1
                    self.assertIsNone(audit_parted(*two))
                    wanted = [net, other] if parting(net, other)[0] == 0 else [other, net]
                    self.assertEqual([read_net(text) for text in two[:2]], wanted)
        self.assertGreater(min(papers.values()), 80)

    def test_errors(self):
        """As in section 8."""
        for work in (alike_paper, parted_paper):
            for thing in ANYTHING:
                if not isinstance(thing, Net):
                    self.assertIs(raised(BadNet, work, thing, None).thing, thing)
                self.assertIs(raised(BadOther, work, WIRE, thing).thing, thing)
            self.assertEqual(raised(NotStill, work, OPENING, None).pair, (0, 1))
            self.assertEqual(raised(NotStill, work, WIRE, OPENING).pair, (0, 1))
            self.assertEqual(raised(NotOpen, work, RINGS, None).index, raised(NotOpen, derivation, RINGS, RINGS).index)
            ring = Net(["a", "b"], [("x", "p", "p", "s"), ("stop", "s")], [("a", "b")])
            self.assertEqual(raised(NotOpen, work, WIRE, ring).index, 0)
            self.assertFalse(is_open(ring))


class CompiledPaperTest(unittest.TestCase):
    def test_by_name(self):
        self.assertEqual(compiled_paper(program=[]), ("nothing", "net in out\njoin in out\n"))

    def test_by_chance(self):
        for seed in range(100):
            program = some_program(Chance(seed), 4)
            paper = compiled_paper(program)
            self.assertIsNone(audit_compiled(*paper))
            self.assertEqual(read_program(paper[0]), program)
            self.assertEqual(compiled_paper(lists_for_tuples(program)), paper)

    def test_errors(self):
        for thing in [*ANYTHING, *[[deed] for deed in NO_DEEDS]]:
            if thing not in ([], ()):
                self.assertIs(raised(BadProgram, compiled_paper, thing).thing, thing)


if __name__ == "__main__":
    unittest.main()
