"""[79]."""

import unittest

from anything import ANYTHING, raised
from chances import Chance
from cuts import SIGNS, check_any_text, check_goes_on, check_right_text, otherwise
from twinforks.errors import BadText, BadWay
from twinforks.waytexts import read_way, way_fault, way_goes_on, way_text

GREATEST = 999999999
WAY = [(0, "put", 1), (12, "take", 0), (GREATEST, "put", 0)]
TEXT = "0 put 1\n12 take 0\n999999999 put 0\n"


def begins_line(part):
    """Whether a line of a way can begin so, by trying all words."""
    for deed in ("put", "take"):
        for figure in "01":
            digits = part.split(" ")[0]
            if not (digits.isdigit() and digits.isascii() and len(digits) <= 9 and str(int(digits)) == digits):
                return part == ""
            if f"{digits} {deed} {figure}\n".startswith(part):
                return True
    return False


class WayTextsTest(unittest.TestCase):
    def test_by_name(self):
        self.assertEqual(way_text(way=WAY), TEXT)
        self.assertEqual(read_way(text=TEXT), WAY)
        self.assertIsNone(way_fault(text=TEXT))
        self.assertEqual(way_goes_on(text=TEXT), TEXT)

    def test_some(self):
        self.assertEqual((way_text([]), read_way(""), way_fault(""), way_goes_on("")), ("", [], None, ""))
        self.assertEqual(way_text([[0, "put", 1], (12, "take", 0)]), "0 put 1\n12 take 0\n")
        told = read_way(TEXT)
        self.assertEqual((type(told), type(told[0])), (list, tuple))
        chance = Chance(2)
        for _ in range(60):
            way = [(chance.below(10 ** chance.below(10)), chance.one_of(("put", "take")), chance.below(2)) for _ in range(chance.below(9))]
            self.assertEqual(read_way(way_text(way)), way)

    def test_faults(self):
        for text, at in (("0", 1), ("0 put 1", 7), ("0 put 2\n", 6), ("00 put 1\n", 1), ("01", 1), ("1234567890", 9), ("123456789", 9), ("-1", 0), ("a", 0), ("0  put", 2), ("0 meet 0\n", 2),
                         ("0 pull", 4), ("0 put 1 ", 7), ("0 put\n", 5), ("\n", 0), ("0\n", 1), ("0 put 1\n\n", 8), (" ", 0), ("0 put 11", 7), ("0 put 1\n5 take", 14), ("\u0661 put 0\n", 0)):
            self.assertEqual(way_fault(text), at, text)
            self.assertEqual(raised(BadText, read_way, text).index, at)

    def test_cut_and_otherwise(self):
        chance = Chance(12)
        for text in (TEXT, "0 take 0\n", ""):
            check_right_text(self, way_fault, text)
            for at in range(len(text) + 1):
                check_goes_on(self, way_goes_on, way_fault, text[:at])
                for sign in [*SIGNS, "2", "k", "e", "u"]:
                    begun = text[:at] + sign
                    self.assertEqual(way_fault(begun) in (None, at + 1), sign == "\n" and begins_line(begun.split("\n")[-2] + "\n") and at > 0 and text[at - 1] in "01"
                                     or sign != "\n" and begins_line(begun.split("\n")[-1]), begun)
                    check_goes_on(self, way_goes_on, way_fault, begun)
            for other in otherwise(text, chance):
                check_any_text(self, way_fault, other)

    def test_any_objects(self):
        for thing in ANYTHING:
            if not isinstance(thing, str):
                self.assertEqual(way_fault(thing), -1)
                self.assertIsNone(way_goes_on(thing))
                self.assertEqual(raised(BadText, read_way, thing).index, -1)
            if thing not in ([], ()):
                self.assertIs(raised(BadWay, way_text, thing).thing, thing)
        for passing in (None, (0, "put"), (0, "meet", 0), (-1, "put", 0), (True, "put", 0), (0, "put", 2), (0, "put", True), (0, 0, "put"), (GREATEST + 1, "put", 0), (0, ["put"], 0)):
            way = [(0, "put", 1), passing]
            self.assertIs(raised(BadWay, way_text, way).thing, way)


if __name__ == "__main__":
    unittest.main()
