"""[81], but for audit_pairing."""

import unittest

from anything import ANYTHING
from chances import some_program, Chance
from samples import nets, open_nets
from twinforks.compiled import net_of_program
from twinforks.derivations import derivation
from twinforks.nets import Net
from twinforks.papertexts import course_text, steps_text
from twinforks.partings import parting
from twinforks.plantexts import net_text
from twinforks.programtexts import program_text
from twinforks.proofaudits import audit_alike, audit_compiled, audit_parted
from twinforks.resting import rest_by
from twinforks.surroundings import lead, surrounded

WIRE = "net a b\njoin a b\n"
FORKS = "net a b\nx a p q\nx b p q\n"
CROSSED = "net a b\nx a p q\nx b q p\n"
MEETING = "net a b\nx w a c\nx w b c\n"
RING = "net a b\njoin a b\nx p p s\nstop s\n"
AROUND = "net a b in out\nx a in s\nx b out t\nstop s\nstop t\n"
SOME_TEXTS = [None, 3, b"net\n", ["net\n"], {}]


def course_of(net):
    """A course till rest that takes the last meeting each time."""
    return course_text(rest_by(net, lambda here, pairs: pairs[-1], 9999)[1])


class AlikeTest(unittest.TestCase):
    def test_by_name(self):
        self.assertIsNone(audit_alike(steps="grow x a\n", other=FORKS, net=WIRE))

    def test_answers(self):
        for net, other, steps, told in (
                (WIRE, WIRE, "", None), (FORKS, WIRE, "shrink 0\n", None), (WIRE, FORKS, "", ("end", 2)), (WIRE, FORKS, "grow y a\n", ("end", 2)), (WIRE, FORKS, "grow x a\nloop\n", ("end", 2)),
                (WIRE, FORKS + "loop\n", "grow x a\nloop\n", None), (WIRE, FORKS, "shrink 0\n", ("line", 2, 0)), (WIRE, FORKS, "grow x a\ngrow x w9\n", ("line", 2, 1)),
                (WIRE, FORKS, "grow x a\nunloop\nshrink 9\n", ("line", 2, 1)), (MEETING, WIRE, "?", ("text", 2, 0)), (MEETING, WIRE, "", ("end", 0)), (RING, WIRE, "", ("end", 0)),
                (MEETING, MEETING, "", ("end", 0)), (WIRE, MEETING, "turn 4\n", ("end", 1)), (WIRE, RING, "", ("end", 1)), (WIRE, "net b a\njoin a b\n", "", ("end", 1)),
                (WIRE, "net a b c\njoin a b\nstop c\n", "", ("end", 1)), (WIRE, "net a c\njoin a c\n", "turn 3\n", ("end", 1)), (WIRE, CROSSED, "grow x a\n", ("end", 2)),
                ("part p a b\njoin a b\nnet a b\nuse p a b\n", WIRE, "", None)):
            self.assertEqual(audit_alike(net, other, steps), told, (net, other, steps))

    def test_texts_that_are_none(self):
        right = [WIRE, FORKS, "grow x a\n"]
        for which, wrong, at in ((0, "net a b\n", 8), (1, "net a b\nx a b c\n", 16), (2, "grow x a", 8), (2, "shrink a\n", 7)):
            texts = list(right)
            texts[which] = wrong
            self.assertEqual(audit_alike(*texts), ("text", which, at))
        for thing in SOME_TEXTS:
            for which in range(3):
                self.assertEqual(audit_alike(*right[:which], thing, *["?"] * (2 - which)), ("text", which, -1))

    def test_by_chance(self):
        told = open_nets(40)
        done = 0
        for net in told:
            for other in told:
                if net.ends() != other.ends():
                    continue
                steps = derivation(net, other)
                if steps is None:
                    self.assertEqual(audit_alike(net_text(net), net_text(other), ""), ("end", 2))
                    continue
                done += 1
                self.assertIsNone(audit_alike(net_text(net), net_text(other), steps_text(steps)))
                self.assertEqual(audit_alike(net_text(net), net_text(other), steps_text([*steps, ("loop",)])), ("end", 2))
                self.assertEqual(audit_alike(net_text(net), net_text(other), steps_text([*steps, ("shrink", 999999)])), ("line", 2, len(steps)))
        self.assertGreater(done, 60)


class PartedTest(unittest.TestCase):
    def test_by_name(self):
        courses = [course_of(surrounded(Net(["a", "b"], cells, joins), lead(["a", "b"], ("a", [0], []), ("b", [0], []), []))) for cells, joins in
                   (([], [("a", "b")]), ([("x", "a", "p", "q"), ("x", "b", "q", "p")], []))]
        self.assertIsNone(audit_parted(second=courses[1], course=courses[0], surroundings=AROUND, other=CROSSED, net=WIRE))

    def right(self):
        around = lead(["a", "b"], ("a", [0], []), ("b", [0], []), [])
        wire = Net(["a", "b"], [], [("a", "b")])
        crossed = Net(["a", "b"], [("x", "a", "p", "q"), ("x", "b", "q", "p")], [])
        return [WIRE, CROSSED, net_text(around), course_of(surrounded(wire, around)), course_of(surrounded(crossed, around))]

    def test_answers(self):
        right = self.right()
        self.assertIsNone(audit_parted(*right))
        lines = [text.count("\n") for text in right]
        shut = "net a b in out\nx a s in\nx b t out\nstop s\nstop t\n"
        for changes, told in (
                ({1: "net b a\njoin a b\n"}, ("end", 1)), ({1: "net a b c\njoin a b\nstop c\n"}, ("end", 1)), ({2: WIRE}, ("end", 2)), ({2: "net a b in out\njoin a in\njoin b out\nloop\n"}, ("end", 2)),
                ({2: "net b a in out\njoin a in\njoin b out\n"}, ("end", 2)), ({1: WIRE, 2: WIRE, 3: "8 9\n"}, ("end", 2)), ({1: "net\n", 2: WIRE}, ("end", 1)), ({3: "8 9\n"}, ("line", 3, 0)),
                ({3: right[3] + "0 1\n"}, ("line", 3, lines[3])), ({3: ""}, ("end", 3)), ({4: "8 9\n"}, ("line", 4, 0)), ({4: right[4] + "0 1\n"}, ("line", 4, lines[4])), ({4: ""}, ("end", 4)),
                ({0: CROSSED, 3: right[4]}, ("end", 3)), ({1: WIRE, 4: right[3]}, ("end", 4)), ({3: "", 4: "8 9\n"}, ("end", 3)), ({0: WIRE + "loop\n"}, None), ({1: CROSSED + "loop\nloop\n"}, None),
                ({2: shut}, None)):
            texts = list(right)
            for which, text in changes.items():
                texts[which] = text
            self.assertEqual(audit_parted(*texts), told, changes)

    def test_nets_that_are_not_open(self):
        """Any nets with the same ends."""
        texts = self.right()
        around = lead(["a", "b"], ("a", [0], []), ("b", [0], []), [])
        meeting = Net(["a", "b"], [("x", "w", "a", "c"), ("x", "w", "b", "c")], [])
        course = course_of(surrounded(meeting, around))
        self.assertIsNone(audit_parted(MEETING, texts[1], texts[2], course, texts[4]))
        # What lies apart and never goes away is no bare wire.
        self.assertEqual(audit_parted(RING, texts[1], texts[2], course_of(surrounded(Net(["a", "b"], [("x", "p", "p", "s"), ("stop", "s")], [("a", "b")]), around)), texts[4]), ("end", 3))

    def test_texts_that_are_none(self):
        right = self.right()
        for which, wrong, at in ((0, "net a b", 7), (1, "", 0), (2, "nets", 3), (3, "0 0\n", 2), (4, "0 1\n1", 5)):
            texts = list(right)
            texts[which] = wrong
            self.assertEqual(audit_parted(*texts), ("text", which, at))
        for thing in SOME_TEXTS:
            for which in range(5):
                self.assertEqual(audit_parted(*right[:which], thing, *["?"] * (4 - which)), ("text", which, -1))

    def test_by_chance(self):
        told = open_nets(30)
        done = 0
        for net in told:
            for other in told:
                found = parting(net, other) if net.ends() == other.ends() else None
                if found is None:
                    continue
                done += 1
                which, around = found
                pair = [net, other] if which == 0 else [other, net]
                courses = [course_of(surrounded(one, around)) for one in pair]
                self.assertIsNone(audit_parted(*[net_text(one) for one in pair], net_text(around), *courses))
                self.assertEqual(audit_parted(*[net_text(one) for one in pair[::-1]], net_text(around), *courses[::-1]), ("end", 3))
        self.assertGreater(done, 60)


class CompiledTest(unittest.TestCase):
    def test_by_name(self):
        self.assertIsNone(audit_compiled(net="net in out\njoin in out\n", program="nothing"))

    def test_answers(self):
        for program, net, told in (
                ("put 0 x", "net in out\nx out in s\nstop s\n", None), ("put 1 x", "net in out\nx out in s\nstop s\n", ("end", 1)), ("put 0 x", "net out in\nx out in s\nstop s\n", ("end", 1)),
                ("nothing", "net in out\njoin in out\nloop\n", ("end", 1)), ("turn x; turn x", "net in out\njoin in out\n", ("end", 1)), ("stop", "part p a\nstop a\nnet in out\nuse p in\nuse p out\n", None),
                ("nothing\n", "net", ("text", 0, 7)), ("nothing", "net in out\n", ("text", 1, 11)), ("do a", "net in out\n", ("text", 0, 0))):
            self.assertEqual(audit_compiled(program, net), told)
        for thing in SOME_TEXTS:
            self.assertEqual(audit_compiled(thing, "?"), ("text", 0, -1))
            self.assertEqual(audit_compiled("stop", thing), ("text", 1, -1))

    def test_by_chance(self):
        texts = []
        for seed in range(60):
            program = some_program(Chance(seed), 3)
            texts.append((program_text(program), net_text(net_of_program(program))))
        for program, net in texts:
            self.assertIsNone(audit_compiled(program, net))
            for _, other in texts:
                self.assertEqual(audit_compiled(program, other), None if net == other else ("end", 1))

    def test_any_objects(self):
        for thing in ANYTHING:
            for work, many in ((audit_alike, 3), (audit_parted, 5), (audit_compiled, 2)):
                for which in range(many):
                    texts = ["net\n"] * many
                    texts[which] = thing
                    self.assertIn((work(*texts) or ("none",))[0], ("none", "text", "end", "line"))
        for net in nets(20):
            self.assertEqual(audit_alike(net_text(net), net_text(net), ""), ("end", 0))


if __name__ == "__main__":
    unittest.main()
