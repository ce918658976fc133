"""[71]."""

import unittest

from anything import ANYTHING, raised
from chances import Chance, some_book
from cuts import check_any_text, check_goes_on, check_right_text, otherwise
from programmodel import Grammar, slow_fault
from test_programs import NO_DEEDS, lists_for_tuples
from test_programtexts import ALL, ALL_TEXT, SIGNS
from twinforks.books import book_fault, book_goes_on, book_text, book_whole, is_book, read_book
from twinforks.errors import BadBook, BadText
from twinforks.programs import deeds_in, is_program

BOOK = [("a", [("put", 0, "x"), ("turn", "y")]), ("ab", []), ("c", [("do", "a"), ("by", "x", [("do", "ab")], [("round", "y", [("do", "a"), ("stop",), ("do", "a")], "x")], "y")])]
BOOK_TEXT = "a: put 0 x; turn y\nab: nothing\nc: do a; by x (do ab | round y (do a; stop; do a) x) to y\n"
WHOLE = [("put", 0, "x"), ("turn", "y"),
         ("by", "x", [], [("round", "y", [("put", 0, "x"), ("turn", "y"), ("stop",), ("put", 0, "x"), ("turn", "y")], "x")], "y")]
NO_LINES = [None, "a", ("a",), ("a", [], []), ("x", []), ("A", []), (3, []), (["a"], []), ("a", None), ("a", [("do", "a")]), ("a", [("do", "b")]),
            ("a", [("by", "x", [("do", "z9")], [], "y")]), ("z", []), ("a", [("do",)]), ("a", [("do", "z", "z")]), ("a", [("do", ["z"])]), ("a", [("do", 3)]),
            *[("a", [deed]) for deed in NO_DEEDS if deed != ("do", "a")]]


def slow_whole(program, lines):
    told = []
    for deed in program:
        if deed[0] == "do":
            told.extend(slow_whole(dict(lines)[deed[1]], lines))
        else:
            told.append(tuple(slow_whole(part, lines) if isinstance(part, list) else part for part in deed))
    return told


def book_slow_fault(text):
    """The first wrong sign, line by line: names unlike, then a program's text in which the names ahead are done."""
    names = []
    at = 0
    while True:
        line = text[at:].split("\n")[0]
        name = line.split(":")[0]
        for length in range(1, len(name) + 1):
            if length > 8 or not name[0] in "abcdefghijklmnopqrstuvwxyz" or not all(sign in "abcdefghijklmnopqrstuvwxyz0123456789" for sign in name[:length]):
                return at + length - 1
            if length == 8 and name[:8] in names:
                return at + 7
        if line == name:
            if "\n" in text[at:]:
                return at + len(name)
            return at + len(line) if line or not names else None
        if name in names or name in ("x", "y", "stop", "join", "loop", "use", "part", "net", "to", "shut") or name == "":
            return at + len(name)
        behind = slow_fault(Grammar(names), line[len(name):], (": ", "PROGRAM", "\n"))
        if behind is not None and behind < len(line) - len(name):
            return at + len(name) + behind
        behind = slow_fault(Grammar(names), text[at + len(name):at + len(line) + 1], (": ", "PROGRAM", "\n"))
        if behind is not None:
            return at + len(name) + behind
        names.append(name)
        at += len(line) + 1


class BooksTest(unittest.TestCase):
    def test_by_name(self):
        self.assertIs(is_book(thing=BOOK), True)
        self.assertEqual(book_whole(book=BOOK), WHOLE)
        self.assertEqual(book_text(book=BOOK), BOOK_TEXT)
        self.assertEqual(read_book(text=BOOK_TEXT), BOOK)
        self.assertIsNone(book_fault(text=BOOK_TEXT))
        self.assertEqual(book_goes_on(text=BOOK_TEXT), BOOK_TEXT)

    def test_one_line(self):
        self.assertTrue(is_book([["a", ()]]))
        self.assertEqual(book_whole([["a", ()]]), [])
        self.assertEqual(book_text([["a", ALL]]), f"a: {ALL_TEXT}\n")
        self.assertEqual(read_book("in: nothing\n"), [("in", [])])
        self.assertEqual(book_whole([("a", ALL)]), ALL)

    def test_lists_for_tuples(self):
        other = lists_for_tuples(BOOK)
        self.assertTrue(is_book(other))
        self.assertEqual((book_whole(other), book_text(other)), (WHOLE, BOOK_TEXT))

    def test_what_is_none(self):
        for thing in ANYTHING:
            self.assertIs(is_book(thing), False)
            if isinstance(thing, (list, tuple)) and thing:
                continue
            for work in (book_whole, book_text):
                self.assertEqual(raised(BadBook, work, thing).index, 0)
        for line in NO_LINES:
            for ahead in ([], [("z", [])], [("z", []), ("c", [("do", "z")])]):
                if not ahead and line == ("z", []):
                    continue
                book = [*ahead, line, None]
                self.assertFalse(is_book(book), book)
                self.assertFalse(is_book([*ahead, line]), line)
                for work in (book_whole, book_text):
                    self.assertEqual(raised(BadBook, work, book).index, len(ahead))

    def test_only_lines_ahead(self):
        self.assertFalse(is_book([("a", [("do", "b")]), ("b", [])]))
        self.assertTrue(is_book([("b", []), ("a", [("do", "b")])]))
        self.assertFalse(is_book([("b", [("round", "x", [("do", "b")], "x")])]))

    def test_lines_that_are_not_used_may_be_great(self):
        book = [("n0", [("turn", "x")] * 2)]
        for k in range(1, 60):
            book.append((f"n{k}", [("do", f"n{k - 1}"), ("do", f"n{k - 1}")]))
        book.append(("last", [("do", "n3"), ("stop",)]))
        self.assertEqual(book_whole(book), [("turn", "x")] * 16 + [("stop",)])

    def test_two_thousand_deeds(self):
        book = [("a", [("by", "x", [("turn", "x")] * 8, [("stop",)], "y")])]
        for k, name in enumerate("bcdefgh"):
            book.append((name, [("do", book[-1][0])] * 2 + [("round", "y", [("do", book[-1][0])] if k == 0 else [], "x")]))
        whole = book_whole(book)
        self.assertTrue(is_program(whole))
        self.assertEqual(whole, slow_whole(book[-1][1], book))
        self.assertGreater(deeds_in(whole), 1900)

    def test_by_chance(self):
        for seed in range(60):
            book = some_book(Chance(seed), 1 + seed % 5)
            self.assertTrue(is_book(book))
            self.assertEqual(read_book(book_text(book)), book)
            whole = book_whole(book)
            self.assertEqual(whole, slow_whole(book[-1][1], book))
            self.assertTrue(is_program(whole))

    def test_faults(self):
        for text, at in (("", 0), ("a", 1), ("a:", 2), ("a: ", 3), ("a: nothing", 10), ("a: nothing\n\n", 11), ("a: do", 3), ("a: do a\n", 3), ("a: nothing\nb: do b\n", 17),
                         ("a: nothing\na: ", 12), ("a: nothing\nb: do c", 17), ("x: ", 1), ("stop: ", 4), ("A: ", 0), ("1", 0), (":", 0), ("abcdefghi", 8), ("a : ", 1), ("a:n", 2),
                         ("abcdefgh: nothing\nabcdefgh", 25), ("abcdefgh: nothing\nabcdefg", 25), ("a: nothing; stop\n", 10), ("a: stop;\n", 8), ("a: stop)", 7), ("a: round x (stop\n", 16),
                         ("ab: nothing\nc: do a\n", 19), ("ab: nothing\nc: do a", 19), ("a: nothing\nab: stop\nc: do a", 27), ("a: nothing\nab: stop\nc: do ab", 28),
                         ("a: nothing\nab: stop\nc: do a; do ab\n", None), ("a: nothing\nab: stop\nc: by x (do a | do ab) to y\n", None), ("a: nothing\nab: stop\nc: do abc", 28)):
            self.assertEqual(book_fault(text), at, text)
            self.assertEqual(book_slow_fault(text), at, text)
            if at is not None:
                self.assertEqual(raised(BadText, read_book, text).index, at)
        for thing in ANYTHING:
            if not isinstance(thing, str):
                self.assertEqual(book_fault(thing), -1)
                self.assertIsNone(book_goes_on(thing))
                self.assertEqual(raised(BadText, read_book, thing).index, -1)

    def test_cut_and_otherwise(self):
        chance = Chance(9)
        for text in (BOOK_TEXT, "a: nothing\n", "abcdefgh: stop\nabcdefg: do abcdefgh\n"):
            check_right_text(self, book_fault, text)
            for at in range(len(text) + 1):
                check_goes_on(self, book_goes_on, book_fault, text[:at])
                for sign in [*SIGNS, ":", "c"]:
                    begun = text[:at] + sign
                    self.assertEqual(book_fault(begun), book_slow_fault(begun), begun)
                    check_goes_on(self, book_goes_on, book_fault, begun)
            for other in otherwise(text, chance):
                check_any_text(self, book_fault, other)
                self.assertEqual(book_fault(other), book_slow_fault(other), other)

    def test_what_is_told_is_new(self):
        book = [("a", [("round", "x", [], "y")]), ("b", [("do", "a"), ("do", "a")])]
        told = book_whole(book)
        self.assertIsNot(told[0][2], told[1][2])
        told[0][2].append(("stop",))
        self.assertEqual(book_whole(book), [("round", "x", [], "y"), ("round", "x", [], "y")])
        self.assertEqual(book, [("a", [("round", "x", [], "y")]), ("b", [("do", "a"), ("do", "a")])])
        told = read_book(BOOK_TEXT)
        self.assertEqual((type(told), type(told[0]), type(told[0][1])), (list, tuple, list))


if __name__ == "__main__":
    unittest.main()
