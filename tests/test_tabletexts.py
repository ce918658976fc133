"""[15]."""

import itertools
import unittest

from anything import ANYTHING, raised
from chances import Chance, some_table
from cuts import SIGNS, check_any_text, check_goes_on, check_right_text, otherwise
from twinforks.errors import BadEnds, BadShut, BadTable, BadText
from twinforks.tabletexts import read_table, table_fault, table_goes_on, table_text

ENDS = ["a", "b", "ab"]
TABLE = [(("a", [0, 1], []), ("b", [], [1])), (("a", [1], [0]), ("a", [0, 0], []))]
SHUT = [("a", [1], [1]), ("b", [], [0, 1]), ("ab", [], [])]
TEXT = "a 01 - to b - 1\na 1 0 to a 00 -\nshut a 1 1\nshut b - 01\nshut ab - -\n"


def rows_to(longest):
    return ["".join(row) for many in range(longest + 1) for row in itertools.product("01", repeat=many)]


def apart(box, other):
    def unlike(s, t):
        return not s.startswith(t) and not t.startswith(s)
    return box[0] != other[0] or unlike(box[1], other[1]) or unlike(box[2], other[2])


def box_of(words):
    return words[0], *["" if word == "-" else word for word in words[1:]]


def boxes_of(line):
    words = line.split(" ")
    return [box_of(words[1:])] if words[0] == "shut" else [box_of(words[:3]), box_of(words[4:])]


def written(row):
    return row or "-"


def can_begin(ends, lines, last, longest):
    """Whether some table's text begins with these whole lines, which are right, and the last one, by trying all boxes."""
    ahead = [box for line in lines for box in boxes_of(line)]
    rows = rows_to(longest)
    boxes = [box for box in itertools.product(ends, rows, rows) if all(apart(box, other) for other in ahead)]
    for box in boxes:
        line = f"{box[0]} {written(box[1])} {written(box[2])}"
        if f"shut {line}\n".startswith(last):
            return True
        if line.startswith(last[:len(line)]) and f"{line} to ".startswith(last[:len(line) + 4]):
            for other in boxes:
                whole = f"{line} to {other[0]} {written(other[1])} {written(other[2])}\n"
                if whole.startswith(last) and apart(box, other):
                    return True
    return False


class TextTest(unittest.TestCase):
    def test_nothing_at_all(self):
        for ends in ([], ["a"], ("a", "b")):
            self.assertEqual(table_text(ends, [], ()), "")
            self.assertEqual(read_table(ends, ""), ([], []))
            self.assertIsNone(table_fault(ends, ""))
            self.assertEqual(table_goes_on(ends, ""), "")

    def test_by_name(self):
        self.assertEqual(table_text(ends=[], table=[], shut=[]), "")
        self.assertEqual(read_table(ends=[], text=""), ([], []))
        self.assertIsNone(table_fault(ends=[], text=""))
        self.assertEqual(table_goes_on(ends=["a"], text="shut a -"), "shut a - -\n")

    def test_a_table(self):
        self.assertEqual(table_text(ENDS, TABLE, SHUT), TEXT)
        self.assertEqual(table_text(tuple(ENDS), tuple(([one[0], tuple(one[1]), one[2]], other) for one, other in TABLE), tuple(SHUT)), TEXT)
        self.assertEqual(read_table(ENDS, TEXT), (TABLE, SHUT))

    def test_lines_mixed(self):
        text = "shut a 1 1\na 01 - to b - 1\nshut b - 01\na 1 0 to a 00 -\n"
        self.assertEqual(read_table(ENDS, text), (TABLE, SHUT[:2]))

    def test_kinds_of_what_is_told(self):
        told = read_table(ENDS, TEXT)
        self.assertIs(type(told), tuple)
        self.assertIs(type(told[0]), list)
        self.assertIs(type(told[0][0]), tuple)
        self.assertIs(type(told[0][0][0]), tuple)
        self.assertIs(type(told[0][0][0][1]), list)
        told[0][0][0][1].append(7)
        told[1].clear()
        self.assertEqual(read_table(ENDS, TEXT), (TABLE, SHUT))

    def test_back_and_forth(self):
        for seed in range(100):
            chance = Chance(seed)
            table, shut = some_table(chance, ENDS, chance.below(30))
            self.assertEqual(read_table(ENDS, table_text(ENDS, table, shut)), (table, shut))

    def test_bad_ends(self):
        for work, more in ((table_text, (None, None)), (read_table, (None,)), (table_fault, (None,)), (table_goes_on, (None,))):
            for ends, index in ((None, 0), ("a", 0), (["a", "a"], 1), (["a", "to"], 1), ([0], 0)):
                self.assertEqual(raised(BadEnds, work, ends, *more).index, index)

    def test_bad_tables(self):
        for thing in (None, (), (("a", [0], []),), (("a", [0], []), ("b", [], []), ("b", [], [])), (("a", [0], []), ("c", [], [])),
                      (("a", [0], [2]), ("b", [], [])), (("a", [], []), ("a", [], [])), (("a", [0], []), ("a", [], [1])), "ab",
                      (("a", [1, 1], []), ("b", [0], [])), (("b", [], []), ("a", [1], []))):
            table = [(("a", [1], [0, 1]), ("a", [1, 0], [1, 1])), (("b", [1], [0]), ("b", [1], [1])), thing]
            self.assertEqual(raised(BadTable, table_text, ["a", "b"], table, None).index, 2, thing)
        for thing in (None, "", {}, 0):
            self.assertEqual(raised(BadTable, table_text, [], thing, []).index, 0)

    def test_bad_shut(self):
        for thing in (None, (), ("a", []), ("c", [], []), ("a", [0], []), ("a", [], [0]), ("b", [1], []), ("b", [0, 1], [1]), ("b", [], []),
                      (("a", [1], []), ("b", [0], []))):
            shut = [("b", [0], []), ("a", [1], [0]), thing]
            self.assertEqual(raised(BadShut, table_text, ["a", "b"], [(("a", [0], []), ("b", [1], []))], shut).index, 2, thing)
        for thing in (None, "", {}, 0):
            self.assertEqual(raised(BadShut, table_text, [], [], thing).index, 0)

    def test_bad_texts(self):
        for thing in ANYTHING:
            if thing != "":
                index = table_fault(["a"], thing)
                self.assertEqual(raised(BadText, read_table, ["a"], thing).index, index)
                self.assertEqual(index == -1, not isinstance(thing, str))
                if not isinstance(thing, str):
                    self.assertIsNone(table_goes_on(["a"], thing))


class FaultTest(unittest.TestCase):
    def check(self, ends, text, at):
        self.assertEqual(table_fault(ends, text), at, text)
        if at is not None:
            self.assertEqual(raised(BadText, read_table, ends, text).index, at)

    def test_lines(self):
        for text, at in (("a", 1), ("c", 0), ("s", 1), ("shut", 4), ("shut\n", 4), ("a\n", 1), ("a -", 3), ("a -0", 3), ("a - ", 4), ("a 0-", 3), ("a 2", 2),
                         ("a 0 0 t", 7), ("a 0 0 x", 6), ("a 0 0\n", 5), ("a 0 0 to\n", 8), ("a 0 0 to b 0 0 ", 14), ("shut a 0 0 ", 10), ("shut a 0 0", 10),
                         ("\n", 0), (" ", 0), ("a 0 0 to b 0 0\n\n", 15), ("a  ", 2), ("a 0  ", 4), ("shut c", 5), ("shut shut", 5), ("a 0 0 too", 8), ("A", 0),
                         ("a \u0661", 2)):
            self.check(["a", "b"], text, at)

    def test_ends_that_begin_alike(self):
        ends = ["sh", "shuts", "to1"]
        self.check(ends, "shut ", 5)
        self.check(ends, "shuts ", 6)
        self.check(ends, "sh ", 3)
        self.check(ends, "shutt", 4)
        self.check(ends, "sh 0 0 to to1 - -\n", None)
        self.check(ends, "sh 0 0 to to ", 12)

    def test_no_ends(self):
        for text in ("a", "s", " ", "\n", "shut"):
            self.check([], text, 0)
            self.assertIsNone(table_goes_on([], text))

    def test_a_box_that_is_not_apart(self):
        text = "shut a 01 0\n"
        for more, at in (("a 01 0", 6), ("a 01 1", None), ("a 01 00", 6), ("a 01 -", 6), ("a 0 0", 5), ("a 0 1", None), ("a - 0", 5), ("a - -", 5),
                         ("a 00 -", None), ("a 011 0", 7), ("shut a 01 1\n", None), ("shut a 0 0", 10), ("shut a 0 -", 10)):
            if at is not None:
                self.check(["a", "b"], text + more, len(text) + at - 1)
            elif not more.endswith("\n"):
                self.check(["a", "b"], text + more, len(text) + len(more))
            else:
                self.check(["a", "b"], text + more, None)

    def test_as_soon_as_all_that_begin_so_are(self):
        text = "shut a 00 -\nshut a 01 0\nshut a 01 1\n"
        self.check(["a", "b"], text + "a 0", len(text) + 2)
        self.check(["a", "b"], text + "a -", len(text) + 2)
        self.check(["a", "b"], text + "a 1 - ", len(text) + 6)
        text += "shut a 1 -\n"
        self.check(["a", "b"], text + "a", len(text))
        self.check(["a", "b"], text + "shut a", len(text) + 5)
        self.check(["a", "ab"], text + "a", len(text) + 1)
        self.check(["a", "ab"], text + "a ", len(text) + 1)
        self.check(["a"], text, None)
        for more in ("a", "s", "\n", " "):
            self.check(["a"], text + more, len(text))

    def test_none_is_left_for_the_other_one(self):
        self.check(["a"], "a - -", 4)
        self.check(["a"], "a - 0", 5)
        self.check(["a"], "shut a - -", 10)
        text = "shut a 0 -\n"
        self.check(["a"], text + "a 1 -", len(text) + 4)
        self.check(["a"], text + "a 1 0 to a 1 0", len(text) + 13)
        self.check(["a"], text + "a 1 0 to a 1 1\n", None)
        self.check(["a"], text + "a 1 0 to a 0", len(text) + 11)
        text = "shut a 0 -\nshut a 1 0\n"
        self.check(["a"], text + "a 1 1", len(text) + 5)
        self.check(["a"], text + "a 1 1 ", len(text) + 5)
        self.check(["a", "b"], text + "a 1 1 ", len(text) + 6)
        self.check(["a", "b"], text + "a 1 1 to a", len(text) + 9)
        self.check(["a"], text + "shut a 1 1\n", None)

    def test_right_texts_cut(self):
        check_right_text(self, lambda text: table_fault(ENDS, text), TEXT)
        for seed in range(40):
            chance = Chance(seed)
            table, shut = some_table(chance, ENDS, chance.below(12))
            check_right_text(self, lambda text: table_fault(ENDS, text), table_text(ENDS, table, shut))

    def test_texts_otherwise(self):
        def fault(text):
            return table_fault(ENDS, text)

        def goes_on(text):
            return table_goes_on(ENDS, text)
        for seed in range(10):
            chance = Chance(seed)
            table, shut = some_table(chance, ENDS, 3 + chance.below(6))
            for text in otherwise(table_text(ENDS, table, shut), chance):
                at = check_any_text(self, fault, text)
                check_goes_on(self, goes_on, fault, chance.one_of([text[:at], text]))

    def test_against_trying_all_boxes(self):
        for seed in range(12):
            chance = Chance(seed)
            ends = ["a", "b"][:1 + seed % 2]
            table, shut = some_table(chance, ends, 2 + chance.below(3))
            text = table_text(ends, table, shut)
            longest = 1 + max([0] + [len(row) for box in shut + [box for pair in table for box in pair] for row in box[1:]])
            for at in range(len(text) + 1):
                *lines, last = text[:at].split("\n")
                for sign in ["-", "0", "1", " ", "\n", "a", "s", chance.one_of(SIGNS)]:
                    begun = text[:at] + sign
                    self.assertEqual(table_fault(ends, begun) in (None, at + 1), can_begin(ends, lines, last + sign, longest), begun)


class GoesOnTest(unittest.TestCase):
    def test_right_texts_cut(self):
        for seed in range(30):
            chance = Chance(seed)
            table, shut = some_table(chance, ENDS, chance.below(12))
            text = table_text(ENDS, table, shut)
            for at in range(len(text) + 1):
                check_goes_on(self, lambda text: table_goes_on(ENDS, text), lambda text: table_fault(ENDS, text), text[:at])

    def test_told_texts(self):
        self.assertEqual(table_goes_on(ENDS, TEXT), TEXT)
        for ends, text in ((["a"], "a - 0"), (["a"], "a"), (["a"], "shut a 0 -\na 1"), (["a", "b"], "shut a - -\n"), (["a"], "a 0 0 to a")):
            more = table_goes_on(ends, text)
            self.assertTrue(more.startswith(text))
            table, shut = read_table(ends, more)
            self.assertEqual(sorted(table_text(ends, table, shut).split("\n")), sorted(more.split("\n")))

    def test_none(self):
        for thing in (None, 0, [], "a - -", "\n", "c"):
            self.assertIsNone(table_goes_on(["a"], thing))


class LimitsTest(unittest.TestCase):
    def test_forty_boxes_with_rows_of_sixty_figures(self):
        ends = [f"e{k}" for k in range(8)]
        row = [1] * 60
        boxes = [("e0", row[:k] + [0], row[:59 - k] + [0, 1][:k % 3]) for k in range(40)]
        table = [(boxes[2 * k], boxes[2 * k + 1]) for k in range(15)]
        text = table_text(ends, table, boxes[30:])
        self.assertEqual(read_table(ends, text), (table, boxes[30:]))
        for at in range(0, len(text), 37):
            self.assertTrue(table_goes_on(ends, text[:at]).startswith(text[:at]))

    def test_all_that_is_left_is_far_down(self):
        rows = ["1" * k + "0" for k in range(60)]
        text = "".join(f"shut a {row} -\n" for row in rows[:30]) + "".join(f"shut a {'1' * 30} {row}\n" for row in rows)
        last = f"shut a {'1' * 30} {'1' * 60}\n"
        self.assertIsNone(table_fault(["a"], text + last))
        self.assertEqual(table_goes_on(["a"], text + "s"), text + last)
        self.assertEqual(table_fault(["a"], text + last + "s"), len(text + last))
        self.assertEqual(table_fault(["a"], text + "a " + "1" * 29 + "0"), len(text) + 31)

    def test_ten_thousand_signs(self):
        text = "shut a " + "01" * 4900 + " -\n"
        self.assertIsNone(table_fault(["a"], text))
        self.assertEqual(read_table(["a"], text)[1][0][1], [0, 1] * 4900)


if __name__ == "__main__":
    unittest.main()
