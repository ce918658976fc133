"""[84]: building."""

import unittest

from anything import ANYTHING, raised
from chances import Chance, make_net
from samples import AWAY, GROWING, LOOPING, NOTHING, RINGS, THREE, WIRE, nets, open_nets, still_nets
from twinforks.building import building
from twinforks.errors import BadNet
from twinforks.nets import Net
from twinforks.sessions import Session


class BuildingTest(unittest.TestCase):
    def check(self, net):
        deeds = building(net)
        self.assertIs(type(deeds), list)
        session = Session()
        for deed in deeds:
            self.assertIn(deed[0], ("fork", "stop", "wire", "tie"))
            self.assertIs(type(deed), tuple)
            self.assertEqual(session.do(deed), [])
        self.assertEqual(session.net(), net)
        self.assertEqual(session.deeds(), deeds)
        self.assertEqual(building(net), deeds)

    def test_by_name(self):
        session = Session()
        for deed in building(net=WIRE):
            session.do(deed)
        self.assertEqual(session.net(), WIRE)

    def test_some(self):
        self.assertEqual(building(NOTHING), [])
        for net in (AWAY, GROWING, LOOPING, RINGS, THREE, WIRE, Net([], [], [("a", "a")]), Net(["a"], [("stop", "a")], []), Net(["b", "a", "d", "c"], [], [("a", "c"), ("d", "b")]),
                    Net(["t1", "t3"], [("x", "t3", "t2", "t2"), ("y", "t1", "t4", "t5"), ("stop", "t4"), ("stop", "t5")], [("k", "k"), ("l", "l")]),
                    Net([], [("stop", "a"), ("stop", "a")], []), Net(["c", "a", "b"], [("x", "a", "b", "c")], [])):
            self.check(net)

    def test_by_chance(self):
        for net in nets(60) + open_nets(30) + still_nets(40):
            self.check(net)

    def test_great_ones(self):
        for seed in range(4):
            self.check(make_net(Chance(seed), 8, 40))

    def test_errors(self):
        for thing in ANYTHING:
            if not isinstance(thing, Net):
                self.assertIs(raised(BadNet, building, thing).thing, thing)


if __name__ == "__main__":
    unittest.main()
