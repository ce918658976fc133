"""[91]."""

import unittest

from anything import ANYTHING, raised
from chances import Chance
from cuts import SIGNS, check_any_text, check_right_text, otherwise
from samples import RINGS, nets, open_nets
from sessionmodel import some_question
from test_sessions import DOES, EXAMPLE, session_of
from twinforks.errors import BadQuestion, BadSession, BadText
from twinforks.plantexts import net_text, plan_fault, read_net
from twinforks.sessions import Session
from twinforks.sessiontexts import read_session, session_fault, write_session
from twinforks.tabletexts import table_fault

EXAMPLE_TEXT = "net a b c d\nx w1 a b\nx w1 c d\nhold does a - - to c - - and b - - to d - -\nwatch meetings\n"
ALL_TEXT = "net a ab\nx a p q\nstop p\nstop q\nstop ab\nloop\nwatch walk ab 01 -\nhold open\nwatch share a ab\nhold meetings\nwatch does\nhold does a 0 - to a 1 0 and ab 1 - to a 1 1\n"
TEXTS = [EXAMPLE_TEXT, ALL_TEXT, "net\n", "net\nwatch open\nhold does\n", "net s\nstop s\nwatch does s 0 - to s 1 -\n", "net a b\njoin a b\nhold does a - - to b - -\nwatch share a a\n"]


def row_begins(part):
    return part == "-" or all(sign in "01" for sign in part)


def box_begins(ends, words):
    """Whether a line's words, the last one cut, can be the beginning of a box."""
    if not any(end == words[0] or len(words) == 1 and end.startswith(words[0]) for end in ends):
        return False
    return len(words) <= 3 and all(row_begins(word) and (word != "" or at == len(words) - 2) for at, word in enumerate(words[1:]))


def table_begins(ends, rest):
    """Whether the words behind `does ` can begin pairs of boxes."""
    pieces = rest.split(" ")
    lines = [""]
    for at, word in enumerate(pieces):
        place = at % 8
        if place == 7:
            if not "and".startswith(word) or (word != "and" and at < len(pieces) - 1):
                return False
            lines.append("")
        else:
            lines[-1] = lines[-1] + (" " if place else "") + word
    text = "\n".join(lines)
    for line in lines:
        first = line.split(" ")[0]
        if not any(end.startswith(first) for end in ends):
            return False
    # A table's text that ends in a line feed can be one of no pair more: then some end has to be one with room.
    if lines[-1] == "":
        return any(table_fault(ends, text + end) in (None, len(text + end)) for end in ends)
    return table_fault(ends, text) in (None, len(text))


def question_begins(ends, line):
    """Whether a question's line can begin so."""
    for word in ("watch", "hold"):
        for question in ("meetings", "open"):
            if f"{word} {question}".startswith(line):
                return True
        for question in ("walk", "share", "does"):
            if (ends or question == "does") and f"{word} {question}".startswith(line):
                return True
            head = f"{word} {question} "
            if not line.startswith(head) or not ends:
                continue
            words = line[len(head):].split(" ")
            if question == "walk":
                return box_begins(ends, words)
            if question == "share":
                return len(words) <= 2 and all(word in ends or at == len(words) - 1 and any(end.startswith(word) for end in ends) for at, word in enumerate(words))
            return table_begins(ends, line[len(head):])
    return False


def is_question_line(ends, line):
    words = line.split(" ")
    if not question_begins(ends, line) or words[0] not in ("watch", "hold") or len(words) < 2:
        return False
    if words[1] in ("meetings", "open"):
        return len(words) == 2
    if words[1] == "does":
        lines = [" ".join(words[at:at + 7]) + "\n" for at in range(2, len(words), 8)]
        return len(words) == 2 or len(words) % 8 == 1 and table_fault(ends, "".join(lines)) is None
    if words[1] == "walk":
        return len(words) == 5 and words[2] in ends and words[4] != ""
    return words[1] == "share" and len(words) == 4 and words[3] in ends


def begins(text):
    """Whether some session's text begins so; "all" if it is one."""
    *lines, last = text.split("\n")
    net = ""
    asks = False
    for at, line in enumerate([*lines, last]):
        is_last = at == len(lines)
        whole = plan_fault(net) is None
        ends = read_net(net).ends() if whole else []
        if asks or whole and line.startswith(("w", "h")):
            asks = True
            if is_last:
                return line == "" and "all" or question_begins(ends, line)
            if not is_question_line(ends, line):
                return False
            continue
        if at == 0 and not (line.startswith("net") or "net".startswith(line)):
            return False
        if at > 0 and (line[:1] in ("n", "p", "u")):
            return False
        net += line + ("" if is_last else "\n")
        if plan_fault(net) not in (None, len(net)):
            return False
    return "all" if plan_fault(net) is None else True


def check_fault(test, text):
    """What begins up to a sign and not with it is wrong there, as what can't begin so can't begin any longer."""
    at = session_fault(text)
    if at is None:
        test.assertEqual(begins(text), "all", text)
    else:
        test.assertTrue(begins(text[:at]), text)
        test.assertFalse(begins(text[:at + 1]) if at < len(text) else begins(text) == "all", text)


class SessionTextsTest(unittest.TestCase):
    def test_by_name(self):
        session = session_of(*EXAMPLE, ("hold", DOES), ("watch", ("meetings",)))
        self.assertEqual(write_session(session=session), EXAMPLE_TEXT)
        self.assertEqual(read_session(text=EXAMPLE_TEXT), session)
        self.assertIsNone(session_fault(text=EXAMPLE_TEXT))

    def test_some(self):
        self.assertEqual(write_session(Session()), "net\n")
        self.assertEqual(read_session("net\n"), Session())
        for text in TEXTS:
            session = read_session(text)
            self.assertEqual((session.count(), session.deeds(), session.undo(), session.again()), (0, [], None, None))
            self.assertEqual(read_session(write_session(session)), session)
            self.assertEqual(session.at(0), session)
            self.assertEqual(session.copy(), session)
        session = read_session(ALL_TEXT)
        self.assertEqual([(question, held) for question, _, held in session.watched()], [
            (("walk", ("ab", [0, 1], [])), False), (("open",), True), (("share", "a", "ab"), False), (("meetings",), True), (("does", []), False),
            (("does", [(("a", [0], []), ("a", [1], [0])), (("ab", [1], []), ("a", [1], [1]))]), True)])
        self.assertEqual(session.net(), read_net("net a ab\nx a p q\nstop p\nstop q\nstop ab\nloop\n"))
        session.do(("free", ("does", [])))
        self.assertEqual(session.undo(), ("free", ("does", [])))
        self.assertEqual(write_session(session).split("loop\n")[1], ALL_TEXT.split("loop\n")[1])

    def test_back_and_forth(self):
        for seed, net in enumerate(nets(60) + open_nets(40) + [RINGS]):
            chance = Chance(seed)
            session = session_of(("lay", net_text(net)))
            for _ in range(6):
                question = some_question(chance, net)
                if session.is_question(question) and question not in [one for one, _, _ in session.watched()]:
                    session.do((chance.one_of(("watch", "hold")), question))
            text = write_session(session)
            self.assertTrue(text.startswith(net_text(net)))
            self.assertIsNone(session_fault(text))
            told = read_session(text)
            self.assertEqual((told, told.watched(), told.deeds()), (session, session.watched(), []))

    def test_a_question_that_stood_ahead(self):
        self.assertEqual(raised(BadQuestion, read_session, "net\nwatch open\nwatch meetings\nhold meetings\nhold open\n").thing, ("meetings",))
        text = "net a b\njoin a b\nwatch walk a 0 -\nhold does a 0 - to b 1 -\nhold walk a - 0\nwatch does a 0 - to b 1 -\nhold walk a 0 -\n"
        self.assertEqual(raised(BadQuestion, read_session, text).thing, ("does", [(("a", [0], []), ("b", [1], []))]))
        self.assertIsNone(session_fault(text))
        self.assertEqual(raised(BadText, read_session, text + "watch").index, len(text) + 5)

    def test_faults(self):
        for text, at in (("", 0), ("net", 3), ("net a\n", 6), ("net a\nwatch", 6), ("part p\n", 0), ("net\nuse", 4), ("net\npart", 4), ("net\nnet", 4), ("net\nwatch", 9), ("net\nwatch open", 14),
                         ("net\nwatch walk", 10), ("net\nwatch share", 10), ("net\nwatch does ", 14), ("net\nwatch open\nloop\n", 15), ("net\nhold open\n\n", 14), ("net\nwatch  open", 10), ("net\nwatchopen", 9),
                         ("net a\nstop a\nwatch walk b", 24), ("net a\nstop a\nwatch walk a", 25), ("net a\nstop a\nwatch walk a 2", 26), ("net a\nstop a\nwatch walk a 0 -1", 29),
                         ("net a\nstop a\nwatch walk a 0 \n", 28), ("net a\nstop a\nwatch walk a -\n", 27), ("net a\nstop a\nwatch does a - -", 28), ("net a\nstop a\nwatch does a - 0 to a - 01", 37),
                         ("net a\nstop a\nwatch does a - 0 to a - 1 ", 38), ("net a\nstop a\nwatch does a - 0 to a - 11 ", 40), ("net a\nstop a\nwatch does a - 0 to a - 11 and shut", 44),
                         ("net a\nstop a\nwatch does shut", 24), ("net a\nstop a\nwatch does a - 0 to a - 1\n", None), ("net a\nstop a\nwatch share a a\nx", 29), ("net a\nstop a\nwatch share a", 26),
                         ("net a\nstop a\nwatch share a\n", 26), ("net a\nstop a\nwatch open a\n", 23), ("net\nloop\nwatch does\n", None), ("net\nfree open\n", 4),
                         ("net does and\njoin does and\nwatch walk does\n", 42), ("net does and\njoin does and\nwatch share does and\n", None), ("net does and\njoin does and\nwatch share does\n", 43),
                         ("net watch hold\njoin hold watch\nwatch walk hold - -\n", None), ("net does and\njoin does and\nhold does does - - to and - -\n", None),
                         ("net does and\njoin does and\nhold does does - 0 to and - - and does - 1 to", 69)):
            self.assertEqual(session_fault(text), at, text)
            check_fault(self, text)
            if at is not None:
                self.assertEqual(raised(BadText, read_session, text).index, at)

    def test_cut_and_otherwise(self):
        chance = Chance(21)
        for text in TEXTS:
            check_right_text(self, session_fault, text)
            for at in range(len(text) + 1):
                for sign in [*SIGNS, "w", "h", "d"]:
                    begun = text[:at] + sign
                    check_fault(self, begun)
            for other in otherwise(text, chance):
                check_any_text(self, session_fault, other)
                check_fault(self, other)

    def test_any_objects(self):
        for thing in ANYTHING:
            if not isinstance(thing, str):
                self.assertEqual(session_fault(thing), -1)
                self.assertEqual(raised(BadText, read_session, thing).index, -1)
            self.assertIs(raised(BadSession, write_session, thing).thing, thing)


if __name__ == "__main__":
    unittest.main()
