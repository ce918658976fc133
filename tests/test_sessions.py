"""[84] to [90], but for building."""

import unittest

from anything import ANYTHING, raised
from chances import Chance
from samples import CROSSED, GROWING, RINGS, nets, open_nets
from sessionmodel import some_deed, some_question, slow_answer, slow_do, slow_is_question
from twinforks.errors import BadDeed, BadQuestion, ForkError, InUse, IsWatched, NoCount, NotNow, NotWatched, WouldChange
from twinforks.building import building
from twinforks.nets import Net
from twinforks.partings import parting, parting_wrong
from twinforks.plantexts import net_text
from twinforks.resting import rest
from twinforks.sessions import Session
from twinforks.steps import steps_at
from twinforks.stills import opened
from twinforks.tables import net_of

DOES = ("does", [(("a", [], []), ("c", [], [])), (("b", [], []), ("d", [], []))])
EXAMPLE = [("fork", "x", "p", "a", "b"), ("fork", "x", "q", "c", "d"), ("tie", "p", "q")]
BAD_DEEDS = [
    (), [], ("fork",), ("go",), ("fork", "x", "a", "b"), ("fork", "x", "a", "b", "c", "d"), ("fork", "z", "a", "b", "c"), ("fork", "stop", "a", "b", "c"), ("fork", ["x"], "a", "b", "c"),
    ("fork", "x", "y", "b", "c"), ("fork", "x", 3, "b", "c"), ("fork", "x", "a", "b", "x"), ("fork", "x", "a", "b", 3), ("fork", "x", "a", "b", "C"), ("x", "a", "b", "c"), ("stop",), ("stop", "stop"), ("stop", "a", "b"), ("stop", None), ("stop", ["a"]),
    ("wire", "a"), ("wire", "a", "to"), ("wire", "a", "abcdefghi"), ("lay",), ("lay", "net"), ("lay", None), ("lay", "net a\n"), ("lay", 3), ("lay", "net\n", "net\n"), ("tie", "a"), ("tie", "a", ""),
    ("tie", "a", "b", "c"), ("name", "a"), ("name", "a", "1"), ("name", "net", "a"), ("meet", 0), ("meet", 0, -1), ("meet", 0, True), ("meet", "0", 1), ("meet", (0, 1)), ("meet", 0, 1, 2), ("rest", 60),
    ("rest", None), ("step",), ("step", "loop"), ("step", ("go",)), ("step", ("shrink", -1)), ("step", ("grow", "x")), ("step", ("shrink", 10 ** 9)), ("step", "loop", "loop"), ("watch",),
    ("watch", ("open",), 1), ("hold",), ("free",), ("fork", "x", ("a", "b", "c")), ("rest", ()), {"rest": 1}, "rest", (["rest"],), ("Rest",)]


def session_of(*deeds):
    session = Session()
    for deed in deeds:
        session.do(deed)
    return session


def with_net(net, *deeds):
    return session_of(*building(net), *deeds)


def state(session):
    """All that can be asked of a session."""
    return session.net(), session.watched(), session.deeds(), session.count()


def outcome(work, *things):
    """What a call tells, or the error that it raises as its kind and what it keeps."""
    try:
        return work(*things)
    except ForkError as error:
        return error.__class__, error.__dict__


class SessionTest(unittest.TestCase):
    def test_empty(self):
        session = Session()
        self.assertEqual((session.net(), session.watched(), session.deeds(), session.count()), (Net([], [], []), [], [], 0))
        self.assertEqual((session.undo(), session.again()), (None, None))
        self.assertEqual((session.answer(("meetings",)), session.answer(("open",)), session.answer(("does", []))), (0, True, True))
        self.assertEqual(session, Session())
        self.assertEqual((session.at(0), session.copy()), (session, session))

    def test_by_name(self):
        session = Session()
        self.assertEqual(session.do(deed=("wire", "a", "b")), [])
        self.assertEqual(session.would(deed=("stop", "c")), [])
        self.assertIs(session.is_question(thing=("open",)), True)
        self.assertIs(session.answer(question=("open",)), True)
        self.assertEqual(session.at(number=0), Session())
        self.assertEqual(session.trial(work=lambda one: one.count()), 1)

    def test_example(self):
        session = session_of(*EXAMPLE)
        self.assertEqual(session.net().ends(), ["a", "b", "c", "d"])
        self.assertEqual(session.answer(("meetings",)), 1)
        self.assertEqual(session.do(("hold", DOES)), [])
        self.assertEqual(session.do(("watch", ("meetings",))), [])
        self.assertEqual(session.watched(), [(DOES, True, True), (("meetings",), 1, False)])
        ahead = state(session)
        self.assertEqual(raised(InUse, session.do, ("tie", "a", "b")).question, DOES)
        self.assertEqual(state(session), ahead)
        self.assertEqual(session.do(("rest",)), [(("meetings",), 1, 0)])
        self.assertEqual(session.watched(), [(DOES, True, True), (("meetings",), 0, False)])

    def test_equality(self):
        session = session_of(*EXAMPLE)
        other = session_of(("fork", "x", "p", "a", "b"), ("fork", "x", "q", "c", "d"), ("wire", "e", "f"), ("tie", "p", "e"), ("tie", "f", "q"))
        self.assertTrue(session == other)
        self.assertFalse(session != other)
        for deeds in ([("watch", ("open",))], [("hold", ("open",))], [("watch", ("open",)), ("watch", ("meetings",))], [("watch", ("meetings",)), ("watch", ("open",))], [("rest",)]):
            one, two = session.copy(), other.copy()
            for deed in deeds:
                one.do(deed)
            self.assertFalse(one == two)
            for deed in deeds:
                two.do(deed)
            self.assertTrue(one == two)
        one = session_of(("watch", ("open",)), ("watch", ("meetings",)))
        self.assertNotEqual(one, session_of(("watch", ("meetings",)), ("watch", ("open",))))
        self.assertNotEqual(one, session_of(("watch", ("open",)), ("hold", ("meetings",))))
        self.assertEqual(one, session_of(("watch", ("meetings",)), ("watch", ("open",)), ("free", ("meetings",)), ("watch", ["meetings"])))
        for thing in ANYTHING:
            self.assertFalse(session == thing)
            self.assertTrue(session != thing)

    def test_nets_stay(self):
        session = session_of(*EXAMPLE)
        net = session.net()
        text = net_text(net)
        session.do(("rest",))
        self.assertEqual(net_text(net), text)


class DeedsTest(unittest.TestCase):
    def test_building_deeds(self):
        session = session_of(("fork", "y", "a", "b", "c"), ["stop", "d"], ("wire", "e", "f"))
        self.assertEqual(session.net(), Net(["a", "b", "c", "d", "e", "f"], [("y", "a", "b", "c"), ("stop", "d")], [("e", "f")]))
        session.do(("lay", "part p u v\nx u v w\nstop w\nnet g h\nloop\nuse p g h\n"))
        self.assertEqual(session.net(), Net(list("abcdefgh"), [("y", "a", "b", "c"), ("stop", "d"), ("x", "g", "h", "w"), ("stop", "w")], [("e", "f"), ("l", "l")]))
        session.do(("tie", "b", "h"))
        self.assertEqual(session.net().ends(), list("acdefg"))
        session.do(("name", "c", "b"))
        self.assertEqual(session.net().ends(), list("abdefg"))
        session.do(("tie", "f", "e"))
        self.assertEqual((session.net().ends(), session.net().loops()), (list("abdg"), 2))
        session.do(("name", "g", "w1"))
        self.assertEqual(session.net(), Net(["a", "b", "d", "w1"], [("y", "a", "u", "b"), ("stop", "d"), ("x", "w1", "u", "w"), ("stop", "w")], [("k", "k"), ("l", "l")]))
        self.assertEqual([deed for deed in session.deeds()[:3]], [("fork", "y", "a", "b", "c"), ("stop", "d"), ("wire", "e", "f")])

    def test_meet_rest_step(self):
        session = session_of(("fork", "x", "p", "a", "b"), ("fork", "y", "q", "c", "d"), ("tie", "p", "q"))
        self.assertEqual(session.answer(("meetings",)), 1)
        session.do(("meet", 0, 1))
        self.assertEqual((len(session.net().cells()), session.answer(("meetings",))), (4, 0))
        session.do(["rest"])
        session.do(("step", ["shrink", 0]) if ("shrink", 0) in steps_at(session.net()) else ("step", ["loop"]))
        session.do(("step", ["loop"]))
        self.assertEqual(session.deeds()[-1], ("step", ("loop",)))
        self.assertGreater(session.net().loops(), 0)

    def test_bad_deeds(self):
        for deeds in ([], EXAMPLE):
            session = session_of(*deeds)
            ahead = state(session)
            for thing in [*BAD_DEEDS, *[one for one in ANYTHING if one != ("stop", "a")]]:
                for work in (session.do, session.would):
                    self.assertIs(raised(BadDeed, work, thing).deed, thing)
            self.assertEqual(state(session), ahead)

    def test_not_now(self):
        session = session_of(("fork", "x", "a", "b", "c"), ("wire", "d", "e"))
        ahead = state(session)
        for deed, why in (
                (("fork", "x", "f", "g", "g"), ("same", "g")), (("fork", "x", "a", "a", "b"), ("same", "a")), (("fork", "y", "f", "a", "f"), ("same", "f")), (("wire", "a", "a"), ("same", "a")),
                (("wire", "f", "f"), ("same", "f")), (("tie", "z", "z"), ("same", "z")), (("tie", "a", "a"), ("same", "a")), (("name", "a", "a"), ("same", "a")), (("name", "z", "z"), ("same", "z")),
                (("tie", "a", "z"), ("none", "z")), (("tie", "z", "f"), ("none", "z")), (("name", "z", "a"), ("none", "z")), (("name", "z", "f"), ("none", "z")), (("name", "a", "b"), ("end", "b")),
                (("fork", "x", "f", "b", "a"), ("end", "b")), (("stop", "e"), ("end", "e")), (("wire", "f", "d"), ("end", "d")), (("lay", "net f e d\njoin e d\nstop f\n"), ("end", "e")),
                (("meet", 0, 1), ("apart", 0, 1)), (("meet", 1, 0), ("apart", 1, 0)), (("meet", 5, 5), ("apart", 5, 5)),
                (("step", ("shrink", 0)), ("step", ("shrink", 0))), (("step", ["unloop"]), ("step", ("unloop",))), (("step", ("grow", "x", "z")), ("step", ("grow", "x", "z"))),
                (["step", ["grow", "x", "a"]], ("step", ("grow", "x", "a")))):
            for work in (session.do, session.would):
                error = raised(NotNow, work, deed)
                self.assertEqual(error.why, why, deed)
                self.assertIs(type(error.why), tuple)
        self.assertEqual(state(session), ahead)

    def test_never_at_rest(self):
        session = with_net(GROWING, ("watch", ("meetings",)))
        self.assertEqual(raised(NotNow, session.do, ("rest",)).why, ("on",))
        for question in (("meetings",), ("open",), ("share", "a", "b"), ("does", [])):
            self.assertIsNone(session.answer(question))
        self.assertEqual(raised(NotNow, session.do, ("step", ("loop",))).why, ("step", ("loop",)))
        self.assertEqual(session.do(("meet", 0, 1)), [])
        session = with_net(RINGS)
        self.assertEqual(raised(NotNow, session.do, ("step", ("loop",))).why, ("step", ("loop",)))

    def test_just_sixty_meetings(self):
        few = Net(["a"], [("stop", f"w{k}") for k in range(60) for _ in range(2)] + [("stop", "a")], [])
        more = Net(["a"], [("stop", f"w{k}") for k in range(61) for _ in range(2)] + [("stop", "a")], [])
        session = Session()
        session.do(("lay", net_text(few)))
        self.assertEqual((session.answer(("meetings",)), session.answer(("open",))), (60, True))
        session.do(("rest",))
        self.assertEqual(session.net(), Net(["a"], [("stop", "a")], []))
        session = session_of(("lay", net_text(more)))
        self.assertEqual((session.answer(("meetings",)), session.answer(("open",)), session.answer(("share", "a", "a"))), (None, None, None))
        self.assertEqual(raised(NotNow, session.do, ("rest",)).why, ("on",))
        session.do(("meet", *session_pairs(session)[0]))
        self.assertEqual(session.answer(("meetings",)), 60)

    def test_deeds_are_told_new(self):
        table = [[["a", [0], []], ["b", [], [1]]]]
        deed = ["watch", ["does", table]]
        session = session_of(("wire", "a", "b"), deed, ["step", ["grow", "x", "a"]])
        told = session.deeds()
        self.assertEqual(told, [("wire", "a", "b"), ("watch", ("does", [(("a", [0], []), ("b", [], [1]))])), ("step", ("grow", "x", "a"))])
        table[0][0][1].append(1)
        table.append(None)
        told[1][1][1].clear()
        session.watched()[0][0][1].clear()
        session.deeds().clear()
        self.assertEqual(session.watched(), [(("does", [(("a", [0], []), ("b", [], [1]))]), False, False)])
        told = session.undo(), session.undo()
        told[1][1][1][0][0][1].append(7)
        self.assertEqual(session.again()[1], ("does", [(("a", [0], []), ("b", [], [1]))]))
        self.assertEqual((deed[0], len(deed[1][1])), ("watch", 2))


def session_pairs(session):
    return session.net().meeting_pairs()


class QuestionsTest(unittest.TestCase):
    def test_is_question(self):
        session = session_of(("wire", "a", "b"), ("stop", "c"))
        for question in (("walk", ("a", [], [])), ["walk", ["c", (0, 1), [1]]], ("meetings",), ["open"], ("share", "a", "a"), ("share", "c", "b"), ("does", []), ("does", [(("a", [0], []), ("a", [1], []))]),
                         ["does", ((("a", [], []), ("b", [], [])),)]):
            self.assertIs(session.is_question(question), True)
        for question in [*ANYTHING, ("walk", ("d", [], [])), ("walk", "a", [], []), ("walk", ("a", [2], [])), ("walk",), ("meetings", 1), ("open", "a"), ("share", "a"), ("share", "a", "d"), ("share", 1, "a"),
                         ("share", "a", "b", "c"), ("share", ["a"], "b"), ("does",), ("does", None), ("does", [(("a", [0], []), ("a", [0, 1], []))]), ("does", [("a", "b")]), ("does", [], []), ("is",),
                         ("does", [(("a", [], []), ("d", [], []))]), (["open"],), "open", {"open": 1}]:
            self.assertIs(session.is_question(question), False, question)
            self.assertIs(raised(BadQuestion, session.answer, question).thing, question)
            for word in ("watch", "hold", "free"):
                for work in (session.do, session.would):
                    self.assertIs(raised(BadQuestion, work, (word, question)).thing, question)

    def test_answers(self):
        session = with_net(CROSSED, ("stop", "c"))
        self.assertEqual(session.answer(("walk", ("a", [0, 1], [1]))), ("out", ("b", [1, 1], [1])))
        self.assertEqual(session.answer(("walk", ("a", [], [1]))), ("asks", "x"))
        self.assertEqual(session.answer(("walk", ("c", [], []))), ("stopped",))
        self.assertEqual((session.answer(("share", "a", "b")), session.answer(("share", "a", "a"))), ((1, 0), (0, 0)))
        self.assertIs(session.answer(("does", [(("a", [], []), ("b", [], []))])), False)
        self.assertIs(session.answer(("does", [(("a", [0], []), ("b", [1], [])), (("b", [0], []), ("a", [1], []))])), True)
        rings = with_net(RINGS)
        self.assertIs(rings.answer(("open",)), False)
        self.assertEqual(rings.answer(("meetings",)), 0)
        away = with_net(Net(["a"], [("x", "p", "p", "a")], []))
        self.assertIsNone(away.answer(("walk", ("a", [], []))))
        for seed, net in enumerate(nets(60)):
            session = session_of(("lay", net_text(net)))
            chance = Chance(seed)
            for _ in range(4):
                question = some_question(chance, net)
                self.assertEqual(session.is_question(question), slow_is_question(net, question))
                if session.is_question(question):
                    self.assertEqual(session.answer(question), slow_answer(net, question))

    def test_watching(self):
        session = session_of(("wire", "a", "b"))
        walk = ("walk", ("a", [0], []))
        session.do(("watch", ["walk", ["a", (0,), ()]]))
        session.do(("watch", ("open",)))
        self.assertEqual(session.watched(), [(walk, ("out", ("b", [0], [])), False), (("open",), True, False)])
        for work in (session.do, session.would):
            self.assertEqual(raised(IsWatched, work, ("watch", ["walk", ["a", (0,), []]])).question, walk)
            self.assertEqual(raised(NotWatched, work, ("free", ["walk", ["a", (0, 0), []]])).question, ("walk", ("a", [0, 0], [])))
        self.assertEqual(session.do(("hold", walk)), [])
        self.assertEqual(session.watched(), [(walk, ("out", ("b", [0], [])), True), (("open",), True, False)])
        for word in ("hold", "watch"):
            self.assertEqual(raised(IsWatched, session.do, (word, walk)).question, walk)
        session.do(("hold", ("meetings",)))
        self.assertEqual([(question, held) for question, _, held in session.watched()], [(walk, True), (("open",), False), (("meetings",), True)])
        session.do(("free", ["walk", ("a", [0], [])]))
        session.do(("free", ("open",)))
        self.assertEqual(session.watched(), [(("meetings",), 0, True)])
        self.assertIs(type(session.watched()[0][2]), bool)

    def test_in_use(self):
        session = session_of(("wire", "a", "b"), ("wire", "c", "d"), ("watch", ("share", "c", "d")), ("hold", ("walk", ("a", [], []))), ("watch", ("open",)))
        for deed, question in ((("tie", "a", "b"), ("walk", ("a", [], []))), (("tie", "a", "c"), ("share", "c", "d")), (("name", "a", "e"), ("walk", ("a", [], []))), (("name", "d", "e"), ("share", "c", "d"))):
            for work in (session.do, session.would):
                self.assertEqual(raised(InUse, work, deed).question, question)
        # In use goes ahead of held, also of a held one that stands ahead.
        session = session_of(("wire", "a", "b"), ("wire", "c", "d"), ("hold", ("walk", ("a", [], []))), ("watch", ("share", "c", "c")))
        self.assertEqual(raised(InUse, session.do, ("tie", "b", "c")).question, ("share", "c", "c"))
        session.do(("free", ("share", "c", "c")))
        self.assertEqual(raised(WouldChange, session.do, ("tie", "b", "c")).question, ("walk", ("a", [], [])))

    def test_would_change(self):
        session = session_of(("wire", "a", "b"), ("stop", "c"), ("watch", ("open",)), ("hold", ("does", [(("a", [], []), ("b", [], []))])), ("hold", ("walk", ("a", [], []))))
        ahead = state(session)
        error = raised(WouldChange, session.do, ("wire", "d", "e"))
        self.assertEqual(error.question, ("does", [(("a", [], []), ("b", [], []))]))
        which, surroundings = error.why
        behind = Net(list("abcde"), [("stop", "c")], [("a", "b"), ("d", "e")])
        self.assertIsNone(parting_wrong(behind, net_of(list("abcde"), [(("a", [], []), ("b", [], []))], []), (which, surroundings)))
        self.assertEqual(state(session), ahead)
        self.assertEqual(session.would(("wire", "d", "e")), [(("does", [(("a", [], []), ("b", [], []))]), True, False)])
        error = raised(WouldChange, session.do, ("step", ("grow", "x", "a")))
        self.assertEqual((error.question, error.why), (("walk", ("a", [], [])), (("out", ("b", [], [])), ("asks", "x"))))
        # False that would be True, and None, are told as answers.
        session = session_of(("stop", "a"), ("wire", "c", "d"), ("hold", ("does", [])), ("watch", ("meetings",)))
        error = raised(WouldChange, session.do, ("tie", "c", "d"))
        self.assertEqual((error.question, error.why), (("does", []), (False, True)))
        session = session_of(("lay", net_text(Net([], [("x", "w", "v", "s"), ("y", "w", "v", "t")] + [("stop", "s"), ("stop", "t")], []))))
        self.assertEqual(raised(NotNow, session.do, ("rest",)).why, ("on",))

    def test_what_is_open(self):
        session = session_of(("hold", ("open",)))
        error = raised(WouldChange, session.do, ("lay", "net a\nx p p a\n"))
        self.assertEqual((error.question, error.why), (("open",), (True, False)))

    def test_none_that_would_be_false(self):
        cells = [("stop", f"w{k}") for k in range(61) for _ in range(2)]
        session = session_of(("lay", net_text(Net(["a", "b"], cells, [("a", "b")]))), ("hold", ("does", [])))
        error = raised(WouldChange, session.do, ("meet", *session_pairs(session)[0]))
        self.assertEqual((error.question, error.why), (("does", []), (None, False)))

    def test_just_four_hundred_passings(self):
        def chain(name, many):
            """Forks one behind another, each with its leg 0 led to the next one's back."""
            wires = [name, *[f"{name}{k}" for k in range(1, many)], f"{name}z"]
            return [("x", wires[k], wires[k + 1], f"{name}s{k}") for k in range(many)] + [("stop", f"{name}s{k}") for k in range(many)]

        for many, told in ((400, ("out", ("b", [], []))), (401, None)):
            session = session_of(("lay", net_text(Net(["a", "b"], [*chain("a", many)], [("az", "b")]))))
            self.assertEqual(session.answer(("walk", ("a", [0] * many, []))), told)

    def test_what_holds_none(self):
        """An answer None that would be a truth, or a truth None, tells both."""
        never = net_text(Net([], [("x", "w", "v", "s"), ("y", "w", "v", "t"), ("stop", "s"), ("stop", "t")], []))
        session = session_of(("hold", ("does", [])))
        error = raised(WouldChange, session.do, ("lay", never))
        self.assertEqual((error.question, error.why), (("does", []), (True, None)))
        session = session_of(("hold", ("meetings",)), ("watch", ("does", [])))
        self.assertEqual(raised(WouldChange, session.do, ("lay", never)).why, (0, None))
        self.assertEqual(session.would(("lay", never)), [(("meetings",), 0, None), (("does", []), True, None)])


class HoldsTest(unittest.TestCase):
    def test_which_deeds_change_no_answer(self):
        """[89]."""
        changed = {}
        for seed, net in enumerate(nets(80) + open_nets(60)):
            chance = Chance(seed)
            session = session_of(("lay", net_text(net)))
            watched = []
            for _ in range(5):
                question = some_question(chance, net)
                if session.is_question(question) and question not in watched:
                    watched.append(question)
                    session.do(("watch", question))
            deeds = [("rest",), ("fork", "x", "q1", "q2", "q3"), ("stop", "q1"), ("wire", "q1", "q2"), ("lay", "net q1\nx q1 q2 q2\nloop\n")]
            deeds.extend(("meet", *pair) for pair in net.meeting_pairs())
            deeds.extend(("step", step) for step in (steps_at(net) if not net.meeting_pairs() and session.answer(("open",)) else []))
            for deed in deeds:
                told = outcome(session.would, deed)
                if isinstance(told, tuple):
                    self.assertEqual(told, (NotNow, {"why": ("on",)}))
                    continue
                for question, old, new in told:
                    changed[(deed[0], question[0])] = True
                    if deed[0] in ("meet", "rest"):
                        self.assertTrue(question[0] == "meetings" or old is None, (deed, question))
                    if deed[0] == "meet" and question[0] == "meetings" and old is not None:
                        self.assertEqual(new, old - 1)
                    if deed[0] == "step":
                        self.assertEqual(question[0], "walk")
                    if deed[0] in ("fork", "stop", "wire"):
                        self.assertEqual(question[0], "does")
                    if deed[0] == "lay":
                        self.assertNotEqual(question[0], "walk")
        for pair in (("meet", "meetings"), ("rest", "meetings"), ("step", "walk"), ("fork", "does"), ("wire", "does")):
            self.assertIn(pair, changed)


class BackAndOnTest(unittest.TestCase):
    def test_undo_and_again(self):
        session = session_of(*EXAMPLE, ("hold", DOES))
        self.assertEqual(session.count(), 4)
        states = [state(session.at(number)) for number in range(5)]
        for number in range(4, 0, -1):
            self.assertEqual(state(session), states[number])
            self.assertEqual(session.undo(), [*EXAMPLE, ("hold", DOES)][number - 1])
        self.assertEqual((session.undo(), session), (None, Session()))
        for number in range(1, 5):
            self.assertEqual(session.again(), [*EXAMPLE, ("hold", DOES)][number - 1])
            self.assertEqual(state(session), states[number])
        self.assertIsNone(session.again())
        # What is held bars no going back.
        session.undo()
        session.undo()
        self.assertEqual(session.net().ends(), ["p", "a", "b", "q", "c", "d"])
        # A deed that can't be done, or is only asked about, leaves what can be done again; one that is done ends it.
        raised(NotNow, session.do, ("stop", "a"))
        raised(BadDeed, session.do, None)
        session.would(("stop", "e"))
        self.assertEqual(session.again(), ("tie", "p", "q"))
        session.undo()
        session.do(("stop", "e"))
        self.assertIsNone(session.again())
        self.assertEqual(session.deeds(), [*EXAMPLE[:2], ("stop", "e")])

    def test_at(self):
        session = session_of(*EXAMPLE)
        session.undo()
        for number in range(3):
            other = session.at(number)
            self.assertEqual((other.deeds(), other.count(), other.again()), (EXAMPLE[:number], number, None))
            other.do(("stop", "z"))
            self.assertEqual(other.undo(), ("stop", "z"))
        self.assertEqual(session.again(), EXAMPLE[2])
        for thing in [*ANYTHING, 4, 5, -1, True, "1", 10 ** 30]:
            if thing not in (0, 1, 2) or isinstance(thing, bool):
                self.assertIs(raised(NoCount, session.at, thing).thing, thing)
        self.assertEqual(session.at(3), session)

    def test_copy(self):
        session = session_of(*EXAMPLE, ("watch", DOES))
        session.undo()
        session.undo()
        other = session.copy()
        self.assertEqual(state(other), state(session))
        self.assertEqual((other.again(), other.again(), other.again()), (EXAMPLE[2], ("watch", DOES), None))
        other.do(("rest",))
        self.assertEqual(session.deeds(), EXAMPLE[:2])
        self.assertEqual(session.again(), EXAMPLE[2])
        self.assertEqual(other.deeds(), [*EXAMPLE, ("watch", DOES), ("rest",)])

    def test_trial(self):
        session = session_of(*EXAMPLE, ("watch", ("open",)))
        session.undo()
        ahead = state(session)
        seen = []

        def work(one):
            seen.append(one)
            one.undo()
            one.do(("stop", "z"))
            one.do(("hold", ("open",)))
            return [one.count(), one.copy()]

        told = session.trial(work)
        self.assertEqual((told[0], told[1].deeds()), (4, [*EXAMPLE[:2], ("stop", "z"), ("hold", ("open",))]))
        self.assertIs(seen[0], session)
        self.assertEqual(state(session), ahead)
        self.assertEqual(session.again(), ("watch", ("open",)))

    def test_trials_that_raise(self):
        class Odd(Exception):
            pass

        def work(one):
            one.do(("stop", "z"))
            one.undo()
            one.undo()
            raise Odd

        session = session_of(*EXAMPLE)
        session.undo()
        ahead = state(session)
        self.assertRaises(Odd, session.trial, work)
        self.assertEqual(state(session), ahead)
        self.assertEqual(raised(NotNow, session.trial, lambda one: one.do(("rest",)) + one.do(("stop", "a"))).why, ("end", "a"))
        self.assertEqual(state(session), ahead)
        self.assertEqual(session.again(), EXAMPLE[2])

    def test_trials_within_one_another(self):
        session = session_of(("wire", "a", "b"))
        told = []

        def deeper(one, depth):
            told.append(one.count())
            one.do(("stop", f"s{depth}"))
            if depth < 6:
                one.trial(lambda same: deeper(same, depth + 1))
            told.append(one.count())

        session.trial(lambda one: deeper(one, 1))
        self.assertEqual(told, [1, 2, 3, 4, 5, 6, 7, 6, 5, 4, 3, 2])
        self.assertEqual((session.count(), session.again()), (1, None))

    def test_trials_keep_old_sessions(self):
        """What was copied out of a trial goes on by itself."""
        session = session_of(("wire", "a", "b"))
        kept = session.trial(lambda one: (one.do(("stop", "c")), one.copy(), one.at(1)))
        self.assertEqual((kept[1].count(), kept[2].count(), session.count()), (2, 1, 1))
        kept[1].do(("stop", "d"))
        self.assertEqual(session.deeds(), [("wire", "a", "b")])


class ModelTest(unittest.TestCase):
    def test_by_chance(self):
        """Sessions of many deeds go as the slow model goes; errors are the model's, too."""
        kinds = {}
        for seed in range(60):
            self.one_session(Chance(seed), kinds)
        for kind in (InUse, WouldChange, NotNow, IsWatched, NotWatched, BadQuestion):
            self.assertIn(kind, kinds)
        self.assertGreater(kinds[list], 600)

    def one_session(self, chance, kinds):
        session = Session()
        past = [(None, Net([], [], []), [])]
        future = []
        for _ in range(30):
            _, net, watched = past[-1]
            deed = some_deed(chance, net, watched)
            wanted = outcome(slow_do, net, watched, deed, True)
            asked = outcome(slow_do, net, watched, deed, False)
            would = outcome(session.would, deed)
            self.assertEqual(would, asked[2] if len(asked) == 3 else asked, deed)
            told = outcome(session.do, deed)
            kinds[told[0] if isinstance(told, tuple) else list] = kinds.get(told[0] if isinstance(told, tuple) else list, 0) + 1
            if len(wanted) == 3:
                self.assertEqual(told, wanted[2], deed)
                past.append((deed, wanted[0], wanted[1]))
                future = []
            else:
                self.check_error(told, wanted, net, deed)
            if not chance.below(5):
                past, future = self.back_and_on(session, past, future, chance)
            self.assertEqual(session.net(), past[-1][1])
            self.assertEqual(session.watched(), [(question, slow_answer(past[-1][1], question), held) for question, held in past[-1][2]])
            self.assertEqual(session.deeds(), [row[0] for row in past[1:]])

    def check_error(self, told, wanted, net, deed):
        self.assertEqual(told[0], wanted[0], deed)
        if told[0] == WouldChange and wanted[1]["why"] == (True, False) and wanted[1]["question"][0] == "does":
            self.assertEqual(told[1]["question"], wanted[1]["question"])
            behind = session_of(("lay", net_text(net)), deed).net()
            behind = opened(rest(behind, 60)[0])
            self.assertIsNone(parting_wrong(behind, net_of(behind.ends(), wanted[1]["question"][1], []), told[1]["why"]))
            self.assertIsNotNone(parting(behind, net_of(behind.ends(), wanted[1]["question"][1], [])))
        else:
            self.assertEqual(told[1], wanted[1], deed)

    def back_and_on(self, session, past, future, chance):
        for _ in range(chance.below(4)):
            if len(past) > 1:
                self.assertEqual(session.undo(), past[-1][0])
                future = [past[-1], *future]
                past = past[:-1]
        for _ in range(chance.below(3)):
            if future:
                self.assertEqual(session.again(), future[0][0])
                past = [*past, future[0]]
                future = future[1:]
            else:
                self.assertIsNone(session.again())
        return past, future


if __name__ == "__main__":
    unittest.main()
