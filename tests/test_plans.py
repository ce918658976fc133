"""[11]."""

import unittest

from anything import ANYTHING, raised
from chances import Chance, some_plan
from twinforks.errors import BadEnds, BadItems, BadParts, BadWire
from twinforks.nets import Net
from twinforks.plans import Plan

PART = ("p", ["a", "b"], [("x", "a", "b", "c"), ("stop", "c")])


class PlanTest(unittest.TestCase):
    def test_nothing_at_all(self):
        plan = Plan([], [], [])
        self.assertEqual((plan.parts(), plan.ends(), plan.body()), ([], [], []))

    def test_by_name(self):
        plan = Plan(parts=[PART], ends=["d"], items=[("use", "p", ["d", "e"]), ("stop", "e")])
        self.assertEqual(plan.ends(), ["d"])

    def test_what_it_tells(self):
        parts = (("p", ("a",), (["stop", "a"],)), ["q", [], [["use", "p", ("z",)], ("stop", "z"), ["loop"], ["join", "l", "l"]]])
        items = (["use", "q", ()], ("use", "p", ("e",)), ["x", "e", "f", "f"], ["loop"])
        plan = Plan(parts, (), items)
        self.assertEqual(plan.parts(), [("p", ["a"], [("stop", "a")]),
                                        ("q", [], [("use", "p", ["z"]), ("stop", "z"), ("loop",), ("join", "l", "l")])])
        self.assertEqual(plan.body(), [("use", "q", []), ("use", "p", ["e"]), ("x", "e", "f", "f"), ("loop",)])
        self.assertTrue(all(type(item) is tuple for item in plan.body()))
        self.assertIs(type(plan.parts()[1]), tuple)
        self.assertIs(type(plan.parts()[1][2][0][2]), list)

    def test_what_is_told_is_new_and_what_is_passed_stays(self):
        ends, wires = ["a"], ["z"]
        items = [["use", "p", wires], ["stop", "z"]]
        parts = [["p", ends, [["stop", "a"]]], ["q", [], items]]
        body = [["use", "p", ["c"]]]
        plan = Plan(parts, ["c"], body)
        ahead = plan.parts()
        ends[0] = wires[0] = "n"
        items.clear()
        body[0][2].append("d")
        parts.pop()
        self.assertEqual(plan.parts(), ahead)
        self.assertEqual(plan.body(), [("use", "p", ["c"])])
        told = plan.parts()
        told[1][2][0][2].append("n")
        told[0][1].append("n")
        told[0][2].clear()
        told.pop()
        plan.body()[0][2].clear()
        plan.ends().clear()
        self.assertEqual((plan.parts(), plan.ends(), plan.body()), (ahead, ["c"], [("use", "p", ["c"])]))

    def test_equality(self):
        plans = [Plan([], [], []), Plan([PART], [], []), Plan([], ["a"], [("stop", "a")]), Plan([], [], [("loop",)]),
                 Plan([("q", [], []), ("p", [], [])], [], []), Plan([("p", [], []), ("q", [], [])], [], []),
                 Plan([], ["a", "b"], [("stop", "a"), ("stop", "b")]), Plan([], ["a", "b"], [("stop", "b"), ("stop", "a")]),
                 Plan([], ["b", "a"], [("stop", "a"), ("stop", "b")])]
        for at, plan in enumerate(plans):
            for place, other in enumerate(plans):
                self.assertIs(plan == other, at == place)
                self.assertIs(plan != other, at != place)
        self.assertTrue(Plan((["p", (), ()],), (), (["use", "p", ()],)) == Plan([("p", [], [])], [], [("use", "p", [])]))

    def test_equal_to_nothing_else(self):
        plan = Plan([], [], [])
        for thing in [*ANYTHING, Net([], [], [])]:
            if not isinstance(thing, Plan):
                self.assertFalse(plan == thing)
                self.assertFalse(thing == plan)

    def test_told_plans_are_right(self):
        for seed in range(100):
            plan = Plan(*some_plan(Chance(seed), 4))
            self.assertTrue(Plan(plan.parts(), plan.ends(), plan.body()) == plan)


class ErrorsTest(unittest.TestCase):
    def test_bad_parts(self):
        for thing in (None, "p", (), ("p", []), ("p", [], [], []), ("net", [], []), ("P", [], []), (["p"], [], []),
                      ("p", ["a", "a"], []), ("p", None, []), ("p", ["x"], []), ("p", [], None), ("p", [], [("z",)]),
                      ("p", ["a"], []), ("p", ["a"], [("stop", "b"), ("stop", "b")]), ("p", [], [("stop", "b")]),
                      ("p", [], [("use", "p", [])]), ("p", [], [("use", "q", ["a"]), ("stop", "a")]),
                      ("p", [], [("use", "later", [])]), ("p", ["a"], [("x", "a", "a", "b"), ("stop", "b")]), ("q", [], [])):
            parts = [("q", [], []), thing, ("later", [], [])]
            self.assertEqual(raised(BadParts, Plan, parts, None, None).index, 1, thing)
        for thing in (None, "", {}, 3):
            self.assertEqual(raised(BadParts, Plan, thing, [], []).index, 0)

    def test_bad_ends(self):
        self.assertEqual(raised(BadEnds, Plan, [], ["a", "a"], None).index, 1)
        self.assertEqual(raised(BadEnds, Plan, [], None, None).index, 0)

    def test_bad_items(self):
        for thing in (None, "loop", (), ("loop", "a"), ("join", "a"), ("join", "a", "b", "c"), ("join", "a", 1), ("join", 1, "a"), ("join", "p", ["a", "b"]), ("stop", "p", ["a", "b"]), ("use",), ("use", "p"),
                      ("use", "p", ["a"]), ("use", "p", ["a", "b", "c"]), ("use", "p", ["a", "x"]), ("use", "p", "ab"),
                      ("use", "q", []), ("use", ["p"], ["a", "b"]), ("use", "p", ["a", "b"], []), ("stop",), ("x", "a", "b"),
                      ("net",), ("part", "p", [], []), ({},)):
            self.assertEqual(raised(BadItems, Plan, [PART], ["a"], [("loop",), ("loop",), thing]).index, 2, thing)
        for thing in (None, "", {}, 3):
            self.assertEqual(raised(BadItems, Plan, [], [], thing).index, 0)

    def test_bad_wires(self):
        for ends, items, name in ((["a"], [], "a"), (["b", "a"], [("stop", "b")], "a"), ([], [("stop", "c")], "c"),
                                  ([], [("use", "p", ["a", "c"]), ("stop", "a")], "c"), (["a"], [("use", "p", ["a", "a"])], "a"),
                                  ([], [("join", "d", "d"), ("stop", "e"), ("join", "d", "e")], "d")):
            self.assertEqual(raised(BadWire, Plan, [PART], ends, items).name, name)

    def test_any_object(self):
        for thing in ANYTHING:
            for things in ((thing, [], []), ([], thing, []), ([], [], thing), ([("p", thing, [])], [], []), ([("p", [], thing)], [], []),
                           ([], [], [thing]), ([], [], [("use", thing, [])]), ([("p", [], [])], [], [("use", "p", thing)])):
                try:
                    Plan(*things)
                except (BadParts, BadEnds, BadItems, BadWire):
                    pass


if __name__ == "__main__":
    unittest.main()
