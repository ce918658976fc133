"""[74], [76]."""

import unittest

from anything import ANYTHING, raised
from chances import Chance, some_endless, some_program
from test_programs import NO_DEEDS, lists_for_tuples
from twinforks.compiled import net_of_program
from twinforks.derivations import derivation
from twinforks.endless import put_all
from twinforks.errors import BadMost, BadOther, BadProgram
from twinforks.formrows import alike
from twinforks.meanings import meaning, programs_alike
from twinforks.programs import back_program, rounds_in
from twinforks.resting import rest
from twinforks.runs import run
from twinforks.stills import opened, trees

MOVE = [("by", "x", [], [], "y")]
ENDLESS = [("round", "x", [("put", 1, "x")], "x")]


def answered(test, program, s, t, answer, chance, most=400):
    """Runs whose piles begin with s and t go as an answer tells."""
    x, y = some_endless(chance, 4), some_endless(chance, 4)
    told = run(program, put_all(s, x), put_all(t, y), most)
    if answer[0] == "out":
        test.assertEqual((told[0], told[1], told[2]), ("out", put_all(answer[1], x), put_all(answer[2], y)), program)
    elif answer == ("stopped",):
        test.assertEqual(told[0], "stopped", program)
    else:
        test.assertEqual((answer, told), (("endless",), None), program)


def leaves_of(tree, s, t):
    """The leaves of a tree, in its order, with the rows to them."""
    if tree[0] not in ("x", "y"):
        return [(s, t, tree)]
    told = []
    for figure in (0, 1):
        told.extend(leaves_of(tree[1 + figure], s + [figure] * (tree[0] == "x"), t + [figure] * (tree[0] == "y")))
    return told


class MeaningTest(unittest.TestCase):
    def test_by_name(self):
        self.assertEqual(meaning(most=0, program=MOVE), [([0], [], ("out", [], [0])), ([1], [], ("out", [], [1]))])
        self.assertEqual(programs_alike(most=9, other=[], program=[]), ("alike",))

    def test_meanings(self):
        for program, told in (
                ([], [([], [], ("out", [], []))]), ([("stop",)], [([], [], ("stopped",))]), ([("put", 1, "x")], [([], [], ("out", [1], []))]),
                ([("take", 1, "y")], [([], [0], ("stopped",)), ([], [1], ("out", [], []))]), ([("turn", "x")], [([0], [], ("out", [1], [])), ([1], [], ("out", [0], []))]),
                (ENDLESS, [([], [], ("endless",))]), ([("round", "x", [], "x")], [([], [], ("out", [], []))]),
                ([("by", "y", [("stop",)], ENDLESS, "y")], [([], [0], ("stopped",)), ([], [1], ("endless",))]),
                ([("put", 0, "x"), ("take", 0, "x")], [([], [], ("out", [], []))]), ([("put", 0, "x"), ("take", 1, "x")], [([], [], ("stopped",))])):
            self.assertEqual(meaning(program, 50), told, program)
            self.assertEqual(meaning(lists_for_tuples(program), 50), told)

    def test_most(self):
        program = [("put", 1, "x"), ("take", 1, "x"), ("turn", "y"), ("put", 0, "x"), ("take", 0, "x")]
        needed = rest(net_of_program(program), 100)[1]
        self.assertIsNone(meaning(program, needed - 1))
        self.assertEqual(meaning(program, needed), [([], [0], ("out", [], [1])), ([], [1], ("out", [], [0]))])
        self.assertIsNone(programs_alike(program, [], needed - 1))
        self.assertIsNone(programs_alike([], program, needed - 1))
        self.assertEqual(programs_alike([], program, needed)[0], "parted")
        self.assertIsNone(meaning([("round", "x", [], "y")], 500))

    def test_runs_go_as_told(self):
        kinds = {}
        for seed in range(400):
            chance = Chance(seed + 50)
            program = some_program(chance, 3, 3)
            told = meaning(program, 300)
            if rounds_in(program) == 0:
                self.assertIsNotNone(told)
            if told is None:
                continue
            net = rest(net_of_program(program), 300)[0]
            self.assertEqual([(s, t) for s, t, _ in told], [(s, t) for s, t, _ in leaves_of(trees(net)[0], [], [])])
            for s, t, answer in told:
                kinds[answer[0]] = kinds.get(answer[0], 0) + 1
                answered(self, program, s, t, answer, chance)
        self.assertGreater(min(kinds["out"], kinds["stopped"], kinds["endless"]), 5)

    def test_what_is_told_is_new(self):
        told = meaning(MOVE, 9)
        self.assertEqual((type(told), type(told[0]), type(told[0][2]), type(told[0][0])), (list, tuple, tuple, list))
        told[0][0].append(1)
        told[0][2][2].append(1)
        self.assertEqual(meaning(MOVE, 9)[0], ([0], [], ("out", [], [0])))

    def test_errors(self):
        for thing in [*ANYTHING, *[[deed] for deed in NO_DEEDS]]:
            if thing not in ([], ()):
                self.assertIs(raised(BadProgram, meaning, thing, None).thing, thing)
                self.assertIs(raised(BadProgram, programs_alike, thing, None, None).thing, thing)
                self.assertIs(raised(BadOther, programs_alike, [], thing, None).thing, thing)
            if not isinstance(thing, int) or isinstance(thing, bool) or thing < 0:
                self.assertIs(raised(BadMost, meaning, [], thing).thing, thing)
                self.assertIs(raised(BadMost, programs_alike, [], [], thing).thing, thing)


class AlikeTest(unittest.TestCase):
    def test_some(self):
        self.assertEqual(programs_alike([("turn", "x"), ("turn", "x")], [], 50), ("alike",))
        self.assertEqual(programs_alike([("put", 0, "x"), ("take", 0, "x")], [], 50), ("alike",))
        self.assertEqual(programs_alike([("stop",)], ENDLESS, 50), ("alike",))
        self.assertEqual(programs_alike([("round", "y", [], "y")], [], 50), ("alike",))
        self.assertEqual(programs_alike([], [("stop",)], 50), ("parted", [], [], ("out", [], []), ("stopped",)))
        self.assertEqual(programs_alike(ENDLESS, [], 50), ("parted", [], [], ("endless",), ("out", [], [])))
        self.assertEqual(programs_alike([("put", 0, "x")], [("put", 1, "x")], 50), ("parted", [], [], ("out", [0], []), ("out", [1], [])))
        told = programs_alike([], [("take", 0, "x"), ("put", 0, "x")], 50)
        self.assertEqual(told, ("parted", [1], [], ("out", [1], []), ("stopped",)))
        self.assertEqual(programs_alike(back_program(MOVE) + MOVE, [], 50), ("alike",))

    def test_by_chance(self):
        parted = 0
        for seed in range(250):
            chance = Chance(seed + 900)
            program, other = some_program(chance, 2, 2), some_program(chance, 2, 2)
            for one, two in ((program, other), (program, program + [("turn", "x"), ("turn", "x")])):
                self.check(one, two, chance)
            told = programs_alike(program, other, 200)
            parted += told is not None and told[0] == "parted"
        self.assertGreater(parted, 80)

    def check(self, one, two, chance):
        told = programs_alike(one, two, 200)
        found = [rest(net_of_program(program), 200) for program in (one, two)]
        if None in found:
            self.assertIsNone(told)
            return
        self.assertEqual(told == ("alike",), alike(found[0][0], found[1][0]))
        steps = derivation(opened(found[0][0]), opened(found[1][0]))
        self.assertEqual(told == ("alike",), steps is not None)
        if told != ("alike",):
            word, s, t, first, second = told
            self.assertEqual(word, "parted")
            self.assertNotEqual(first, second)
            self.assertIn("out", (first[0], second[0]))
            for _ in range(3):
                answered(self, one, s, t, first, chance)
                answered(self, two, s, t, second, chance)


if __name__ == "__main__":
    unittest.main()
