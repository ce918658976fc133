"""[13], [14]."""

import unittest

from anything import ANYTHING, raised
from chances import Chance, make_net, make_plan
from cuts import SIGNS, check_any_text, check_goes_on, check_right_text, otherwise
from twinforks.errors import BadNet, BadParts, BadPlan, BadText, ForkError
from twinforks.nets import Net
from twinforks.plans import Plan
from twinforks.plantexts import net_text, plan_fault, plan_goes_on, plan_text, read_net, read_plan
from twinforks.unrolling import unrolled

TEXT = """part p a b
x a c c
y b d d
part q
use p e f
stop e
loop
join f g
stop g
net a b
use p a m
use p m b
use q
loop
"""
PLAN = Plan([("p", ["a", "b"], [("x", "a", "c", "c"), ("y", "b", "d", "d")]),
             ("q", [], [("use", "p", ["e", "f"]), ("stop", "e"), ("loop",), ("join", "f", "g"), ("stop", "g")])],
            ["a", "b"], [("use", "p", ["a", "m"]), ("use", "p", ["m", "b"]), ("use", "q", []), ("loop",)])
NAME_SIGNS = "abcdefghijklmnopqrstuvwxyz0123456789"


def plan_of_lines(lines):
    """The plan of whole lines, by the words of [13]; some error if there is none."""
    parts, blocks = [], []
    for line in lines:
        words = line.split(" ")
        if words[0] == "part":
            block = (words[1], words[2:], [])
            parts.append(block)
            blocks.append(block)
        elif words[0] == "net":
            blocks.append(("", words[1:], []))
        elif words[0] == "use":
            blocks[-1][2].append(("use", words[1], words[2:]))
        else:
            blocks[-1][2].append(tuple(words))
    if blocks[-1][0] != "" or len(blocks) != len(parts) + 1:
        raise BadParts(0)
    return Plan(parts, *blocks[-1][1:])


def names_of(line):
    """The names of ends or wires that a line tells."""
    words = line.split(" ")
    return words[2:] if words[0] in ("part", "use") else words[1:]


def can_be(lines):
    """Whether some plan's text begins with these whole lines: all names that stand once are shut, a net is put behind."""
    block = []
    for line in lines:
        if line.split(" ")[0] in ("part", "net"):
            block = []
        block.extend(names_of(line))
    more = [f"stop {name}" for name in dict.fromkeys(block) if block.count(name) == 1]
    if not any(line.split(" ")[0] == "net" for line in lines):
        more.append("net")
    try:
        whole = plan_of_lines([*lines, *more])
    except (ForkError, IndexError):
        return False
    return plan_text(whole) == "".join(line + "\n" for line in [*lines, *more])


def lines_from(line):
    """Lines that begin so, enough of them for one to be right if any such line can be, where few names stand."""
    if " " not in line:
        words = [word for word in ("x", "y", "stop", "join", "loop", "use", "part", "net") if word.startswith(line)]
        if line not in words:
            return [more for word in words for more in lines_from(word)]
        told = [line] if line in ("loop", "net") else []
        return told + ([] if line == "loop" else lines_from(line + " "))
    words = line.split(" ")
    last = [words[-1] + sign for sign in ["", *NAME_SIGNS]] + [words[-1] + "z" + sign for sign in NAME_SIGNS]
    if words[0] == "use" and len(words) == 2:
        last = [name for name in ("p", "q", "r", "pq", "p1") if name.startswith(words[1])]
    told = []
    for word in last:
        begun = [*words[:-1], word]
        if words[0] in ("part", "net"):
            told.append(" ".join(begun))
        many = {"x": [3], "y": [3], "stop": [1], "join": [2], "use": range(1, 6), "loop": [0]}.get(words[0], [])
        for wires in many:
            lacking = wires + 1 - len(begun)
            if lacking >= 0:
                told.append(" ".join([*begun, *[f"zz{k}" for k in range(lacking)]]))
    return told


def can_begin(text):
    """Whether some plan's text begins so, by trying."""
    *lines, last = text.split("\n")
    if last == "":
        return not lines or can_be(lines)
    return (not lines or can_be(lines)) and any(can_be([*lines, line]) for line in lines_from(last))


class TextTest(unittest.TestCase):
    def test_nothing_at_all(self):
        self.assertEqual(plan_text(Plan([], [], [])), "net\n")
        self.assertEqual(net_text(Net([], [], [])), "net\n")
        self.assertTrue(read_plan("net\n") == Plan([], [], []))
        self.assertTrue(read_net("net\n") == Net([], [], []))

    def test_by_name(self):
        self.assertEqual(plan_text(plan=Plan([], [], [])), "net\n")
        self.assertEqual(net_text(net=Net([], [], [])), "net\n")
        self.assertEqual(read_plan(text="net\n").ends(), [])
        self.assertEqual(read_net(text="net\n").ends(), [])
        self.assertIsNone(plan_fault(text="net\n"))
        self.assertEqual(plan_goes_on(text="net\n"), "net\n")

    def test_a_plan(self):
        self.assertEqual(plan_text(PLAN), TEXT)
        self.assertTrue(read_plan(TEXT) == PLAN)
        self.assertTrue(read_net(TEXT) == unrolled(PLAN))

    def test_a_net(self):
        net = Net(["a", "b", "c", "d"], [("x", "p", "q", "q"), ("stop", "p"), ("stop", "b"), ("y", "d", "s", "s")],
                  [("c", "a"), ("l", "l"), ("m", "m")])
        self.assertEqual(net_text(net), "net a b c d\nstop b\ny d w1 w1\nstop w2\nx w2 w3 w3\njoin a c\nloop\nloop\n")

    def test_texts_back_and_forth(self):
        for seed in range(100):
            plan = make_plan(Chance(seed), 3)
            self.assertTrue(read_plan(plan_text(plan)) == plan)
            self.assertTrue(read_net(plan_text(plan)) == unrolled(plan))
            net = make_net(Chance(seed), 3, 8)
            self.assertTrue(read_net(net_text(net)) == net)

    def test_errors(self):
        for thing in ANYTHING:
            if not isinstance(thing, Plan):
                self.assertIs(raised(BadPlan, plan_text, thing).thing, thing)
            if not isinstance(thing, Net):
                self.assertIs(raised(BadNet, net_text, thing).thing, thing)
            if thing != "net\n":
                index = plan_fault(thing)
                self.assertEqual(raised(BadText, read_plan, thing).index, index)
                self.assertEqual(raised(BadText, read_net, thing).index, index)
                self.assertEqual(index == -1, not isinstance(thing, str))
                if not isinstance(thing, str):
                    self.assertIsNone(plan_goes_on(thing))


class FaultTest(unittest.TestCase):
    def check(self, text, at):
        self.assertEqual(plan_fault(text), at, text)
        self.assertEqual(raised(BadText, read_plan, text).index, at)
        self.assertEqual(raised(BadText, read_net, text).index, at)

    def test_the_example(self):
        self.check("net a b\nx a p", 13)
        self.check("net a b\nx a p\n", 13)

    def test_nothing_and_first_words(self):
        for text, at in (("", 0), ("n", 1), ("net", 3), ("part", 4), ("part ", 5), ("part\n", 4), ("net ", 4), ("net  ", 4), ("net \n", 4),
                         ("x", 0), ("u", 0), (" net\n", 0), ("\n", 0), ("N", 0), ("net\r\n", 3), ("nets", 3), ("pa ", 2)):
            self.check(text, at)

    def test_names(self):
        for text, at in (("net a\nstop A", 11), ("net a\nstop 1", 11), ("net abcdefghi", 12), ("net abcdefgh", 12), ("net x\n", 5),
                         ("net x", 5), ("net xx", 6), ("net x a", 5), ("net a-", 5), ("part net\n", 8), ("part net a", 8),
                         ("part nets a", 11), ("net \u00e9", 4), ("net a\u0661", 5)):
            self.check(text, at)

    def test_a_name_that_stands_a_third_time(self):
        text = "net a\nx a b b\nstop b"
        self.check(text, len(text))
        self.check(text + "\n", len(text))
        self.check(text + "b", len(text) + 1)
        text = "net\nx abcdefgh abcdefgh abcdefg"
        self.check(text, len(text))
        self.check(text + "h", len(text))
        self.check(text + "i", len(text) + 1)

    def test_all_names_that_begin_so_stand_twice(self):
        lines = "".join(f"join abcdefg{sign} abcdefg{sign}\n" for sign in NAME_SIGNS)
        self.check("net\n" + lines + "stop abcdefg", len(lines) + 16)
        text = "net\n" + lines + "join abcdefg abcdefg\nstop abcdef"
        self.check(text, len(text))
        self.check(text + "g", len(text))
        self.check(text + "h", len(text) + 1)
        ends = "net " + " ".join(f"abcdefg{sign}" for sign in NAME_SIGNS)
        self.check(ends + " abcdefg", len(ends) + 8)
        self.check(ends + " abcdefg abcdef", len(ends) + 15)
        self.check(ends + " abcdefg abcdefg", len(ends) + 15)
        parts = "".join(f"part abcdefg{sign}\n" for sign in NAME_SIGNS)
        self.check(parts + "part abcdefg", len(parts) + 12)
        self.check(parts + "part abcdefg\npart abcdefg", len(parts) + 24)

    def test_an_end_or_part_named_a_second_time(self):
        for text, at in (("net a a\n", 7), ("net a a", 7), ("net a a b", 7), ("net a ab", 8), ("part p\npart p\n", 13),
                         ("part p\npart p a", 13), ("part p\npart pq", 14), ("part p\nnet p", 12), ("part p a a\n", 10),
                         ("net abcdefgh abcdefgh", 20), ("part abcdefgh\npart abcdefgh", 26)):
            self.check(text, at)

    def test_uses(self):
        for text, at in (("part p a\nu", 9), ("part p\nu", 7), ("part p\npart q\nu", 15), ("part p\nnet\nuse q", 15), ("part p\nnet\nuse p ", 16),
                         ("part p\nnet\nuse p\nuse pq", 22), ("part pq a\nstop a\nnet\nuse p ", 26), ("part pq a\nstop a\nnet\nuse p\n", 26),
                         ("part p a b\njoin a b\nnet\nuse p c\n", 31), ("part p a b\njoin a b\nnet\nuse p c c c", 33),
                         ("part p a b\njoin a b\nnet\nuse p\n", 29), ("part p\nnet\nuse\n", 14), ("part p\nnet\nuse  ", 15)):
            self.check(text, at)
        self.assertIsNone(plan_fault("part p a b\njoin a b\nnet\nuse p c c\n"))

    def test_lines(self):
        for text, at in (("net a\nx a\n", 9), ("net a\nx a b\n", 11), ("net a\nx a b c d", 13), ("net a\nstop a b", 12), ("net a\nstop\n", 10),
                         ("net\nloop ", 8), ("net\nloops", 8), ("net\njoin a\n", 10), ("net\njoin a a a", 12), ("net\n\n", 4), ("net\n ", 4),
                         ("net\nz", 4), ("net\nxx", 5), ("net\nsto ", 7)):
            self.check(text, at)

    def test_blocks(self):
        for text, at in (("part p a\nnet", 9), ("part p a\npart q", 9), ("part p\nstop a\nn", 14), ("net\nnet\n", 4), ("net\npart p\n", 4), ("part p\n", 7),
                         ("part p a\nstop a\nne", 18), ("net a\n", 6), ("net a\nstop b\n", 13)):
            self.check(text, at)
        self.assertIsNone(plan_fault("part p a\nstop a\nnet\nuse p b\nstop b\n"))

    def test_right_texts_cut(self):
        check_right_text(self, plan_fault, TEXT)
        for seed in range(40):
            check_right_text(self, plan_fault, plan_text(make_plan(Chance(seed), 3)))

    def test_texts_otherwise(self):
        for seed in range(6):
            chance = Chance(seed)
            for text in otherwise(plan_text(make_plan(chance, 2)) if seed else TEXT, chance):
                at = check_any_text(self, plan_fault, text)
                check_goes_on(self, plan_goes_on, plan_fault, chance.one_of([text[:at], text]))

    def test_against_trying(self):
        texts = [TEXT, "part pq a\nstop a\npart p\nnet b\nuse pq b\nuse p\n", "part p\npart p1 a b\njoin a b\nnet c\nuse p1 c d\nuse p\nstop d\n"]
        for seed, text in enumerate(texts):
            chance = Chance(seed)
            for at in range(len(text) + 1):
                for sign in [chance.one_of(SIGNS) for _ in range(6)] + list("px \n"):
                    begun = text[:at] + sign
                    if plan_fault(text[:at]) in (None, at):
                        self.assertEqual(plan_fault(begun) in (None, at + 1), can_begin(begun), begun)


class GoesOnTest(unittest.TestCase):
    def test_right_texts_cut(self):
        for seed in range(20):
            text = plan_text(make_plan(Chance(seed), 3)) if seed else TEXT
            for at in range(len(text) + 1):
                check_goes_on(self, plan_goes_on, plan_fault, text[:at])

    def test_a_text_that_is_right_is_told(self):
        self.assertEqual(plan_goes_on(TEXT), TEXT)

    def test_it_is_one_that_is_written(self):
        for text in ("", "p", "net a b\nx a p", "part p a b\n", "net a\nx a b b\nstop b", "part abcdefgh\npart abcdefg"):
            more = plan_goes_on(text)
            self.assertEqual(plan_text(read_plan(more)), more)
            self.assertTrue(more.startswith(text))

    def test_none(self):
        for thing in (None, 0, ["net\n"], "x", "net\n\n", "net a a a"):
            self.assertIsNone(plan_goes_on(thing))

    def test_names_that_begin_so_are_used_up(self):
        lines = "net\n" + "".join(f"join abcdefg{sign} abcdefg{sign}\n" for sign in NAME_SIGNS[:-1])
        more = plan_goes_on(lines + "join abcdefg abcdefg\nx abcdefg")
        self.assertTrue(more.startswith(lines + "join abcdefg abcdefg\nx abcdefg9 "))
        self.assertIsNone(plan_fault(more))

    def test_long_texts(self):
        text = "net\n" + "".join(f"join a{k} b{k}\n" for k in range(700))
        self.assertEqual(plan_fault(text), len(text))
        more = plan_goes_on(text)
        self.assertIsNone(plan_fault(more))
        self.assertTrue(more.startswith(text))


if __name__ == "__main__":
    unittest.main()
