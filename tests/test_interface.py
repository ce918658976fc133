"""The interface of what has landed, and what [2], [3], [5] tell of all of it."""

import ast
import importlib
import inspect
import pathlib
import unittest

from anything import ANYTHING, deep
from twinforks.machines import Machine
from twinforks.nets import Net
from twinforks.plans import Plan
from twinforks.resting import rest
from twinforks.sessions import Session
from twinforks.sessiontexts import read_session

ROOT = pathlib.Path(__file__).resolve().parent.parent / "twinforks"
FUNCTIONS = """
forms: is_row(thing) is_endless(thing) least_endless(endless) figure_at(endless,index) is_box(ends,thing)
unrolling: unrolled(plan) unrolled_counts(plan)
plantexts: plan_text(plan) net_text(net) read_plan(text) read_net(text) plan_fault(text) plan_goes_on(text)
tabletexts: table_text(ends,table,shut) read_table(ends,text) table_fault(ends,text) table_goes_on(ends,text)
papertexts: endless_text(endless) read_endless(text) endless_fault(text) course_text(course) read_course(text) course_fault(text)
papertexts: steps_text(derivation) read_steps(text) steps_fault(text)
meetings: meetings(net) sort_of(net,pair) met(net,pair)
courses: course_wrong(net,thing) is_course(net,thing) behind_course(net,course) course_sorts(net,course)
resting: rest(net,most) rest_by(net,choose,most) rest_sorts(net,most)
rounds: some_at_once(net,lot) all_at_once(net) schedule(net,most) schedule_wrong(net,thing) is_schedule(net,thing)
earliests: earliest(net,course)
comings: coming_round_wrong(net,thing) is_coming_round(net,thing) coming_round(net,most)
endless: tops(endless,many) drop_tops(endless,many) put_all(figures,endless) first_unlike(endless,other)
walking: walk(net,end,x,y,most) way(net,end,x,y,most) box_walked(net,box,most)
asking: asked(net,end,most) drawn(net,most)
ways: way_back(way) way_wrong(net,box,thing) is_way(net,box,thing)
nevers: never_wrong(net,thing) is_never(net,thing) never_paper(net,end,x,y,most)
stills: is_still(net) inner(net) is_open(net) trees(net) pairs(net) shut(net) box_at(net,end,s,t) opened(net)
formrows: form(net) alike(net,other)
shares: share(net,end,goal)
tables: is_table(ends,table,shut) net_of(ends,table,shut)
plugging: plugged(net,other,ties) closed(net,ties) renamed(net,names) reordered(net,ends)
steps: is_step(net,thing) stepped(net,step) undone(net,step) steps_at(net)
derivations: derivation(net,other) derivation_wrong(net,other,thing) is_derivation(net,other,thing)
surroundings: is_surroundings(ends,thing) lead(ends,one,other,shut) surrounded(net,surroundings) fares(net,surroundings,most)
partings: parting(net,other) parting_wrong(net,other,thing) compared(net,other,most)
ahead: met_ahead(net,index,most) count_ahead(net,most) sorts_ahead(net,most)
askerpapers: asker_wrong(net,thing) is_asker_paper(net,thing) never_rests(net,most)
copying: is_without(net,end,kind) shut_at(net,end) forked_at(net,end,kind,names) tied_count(net,end,kind) without_end(net,end)
copying: copied(net,end,kind,names)
programs: is_program(thing) deeds_in(program) rounds_in(program) back_program(program)
programtexts: program_text(program) read_program(text) program_fault(text) program_goes_on(text)
books: is_book(thing) book_whole(book) book_text(book) read_book(text) book_fault(text) book_goes_on(text)
runs: run(program,x,y,most)
compiled: net_of_program(program)
meanings: meaning(program,most) programs_alike(program,other,most)
tableprograms: is_in_out(thing) program_of_table(table)
machines: machine_run(machine,left,right,most) back_machine(machine)
machinenets: net_of_machine(machine)
onerounds: one_round(program) program_of_machine(machine)
waytexts: way_text(way) read_way(text) way_fault(text) way_goes_on(text)
audits: audit_rest(net,course,goal) audit_walk(net,goes,way) audit_never(net,shut,way,again) audit_pairing(net,table,ways)
proofaudits: audit_alike(net,other,steps) audit_parted(net,other,surroundings,course,second) audit_compiled(program,net)
papers: rest_paper(net,most) pairing_paper(net,most) alike_paper(net,other) parted_paper(net,other) compiled_paper(program)
building: building(net)
sessiontexts: write_session(session) read_session(text) session_fault(text)
"""
METHODS = {
    "nets": ("Net(ends,cells,joins)", "ends() cells() joins() loops() wires() places(wire) __eq__(other)"),
    "plans": ("Plan(parts,ends,items)", "parts() ends() body() __eq__(other)"),
    "machines": ("Machine(states,rules)", "states() rules() __eq__(other)"),
    "sessions": ("Session()", "do(deed) is_question(thing) answer(question) would(deed) count() deeds() undo() again() at(number) copy() trial(work) net()"
                 " watched() __eq__(other)"),
}


def landed():
    """The functions as triples (file, name, parameters)."""
    told = []
    for line in FUNCTIONS.strip().split("\n"):
        name, functions = line.split(": ")
        for one in functions.split():
            word, parameters = one[:-1].split("(")
            told.append((name, word, parameters.split(",")))
    return told


def defined_in(name):
    tree = ast.parse((ROOT / f"{name}.py").read_text())
    return {node.name: node for node in tree.body if isinstance(node, (ast.FunctionDef, ast.ClassDef))}


WIRE = Net(["a", "b"], [], [("a", "b")])
CROSSED = Net(["a", "b"], [("x", "a", "p", "q"), ("x", "b", "q", "p")], [("l", "l")])
CUT = Net(["a", "b"], [("y", "a", "p", "q"), ("x", "p", "s", "t"), ("x", "q", "u", "v"), ("stop", "u"), ("x", "b", "r", "z"), ("y", "r", "s", "t"),
                       ("stop", "v"), ("stop", "z")], [])
STILL = Net(["a", "b", "c"], [("x", "a", "p", "q"), ("stop", "p"), ("x", "r", "q", "s"), ("y", "s", "r", "b"), ("x", "m", "m", "c"),
                              ("y", "n", "n", "o"), ("stop", "o")], [("l", "l")])
LEAD = Net(["a", "b", "in", "out"], [("x", "a", "in", "p"), ("x", "b", "out", "q"), ("stop", "p"), ("stop", "q")], [])
PROGRAM = [("put", 0, "x"), ("by", "x", [("turn", "y"), ("stop",)], [("round", "y", [("take", 1, "x")], "x")], "y")]
MACHINE = Machine([("a", "left"), ("b", "right"), ("c", "stay")], [("a", 1, 0, "b"), ("a", 0, 0, "c"), ("b", 1, 1, "b")])
OPENING = "net a b\nx w a c\nx w b c\n"
FORK = "net a\nx a p p\n"
AWAY = "net a\nx p p a\n"
SESSION = read_session("net a b c\nx a p q\nx b q p\nstop c\nhold does a 0 - to b 1 - and b 0 - to a 1 -\nwatch walk a 0 -\nwatch share a b\n")
SESSION.do(("rest",))
IN_OUT = [(([0], []), ([], [1, 1])), (([1], [0]), ([], [0])), (([1], [1]), ([1], [1, 0]))]
ENDING = [("put", 0, "x"), ("by", "x", [("turn", "y"), ("round", "x", [("put", 0, "y")], "y")], [("stop",)], "y")]
NET = Net(["a", "b", "c"], [("x", "m", "a", "p"), ("y", "m", "b", "q"), ("x", "q", "c", "r"), ("stop", "r"), ("stop", "p")], [("l", "l")])
PARTS = [("p", ["a", "b"], [("x", "a", "b", "c"), ("stop", "c")]), ("q", [], [("use", "p", ["a", "a"]), ("loop",)])]
PLAN = Plan(PARTS, ["a"], [("use", "p", ["a", "b"]), ("stop", "b"), ("use", "q", [])])
NET_AT_REST = rest(NET, 100)[0]
TABLE = [(("a", [0], []), ("b", [], [1])), (("a", [1], []), ("b", [], [0, 1]))]
RIGHT = {
    "net": [NET], "plan": [PLAN], "ends": [["a", "b"]], "endless": [([0, 1], [1, 0]), ([], [0])], "x": [([0, 0], [1, 1]), ([], [0])],
    "y": [([1], [0, 1]), ([], [0])], "most": [0, 200], "table": [TABLE, []], "shut": [[("b", [], [0, 0])], []], "pair": [(0, 1)],
    "index": [0, 7], "many": [0, 5], "lot": [[(0, 1)]], "figures": [[], [1, 0]], "other": [([0, 1], [1, 1]), ([], [0, 0])], "end": ["a", "b", "c"],
    "box": [("a", [], []), ("a", [1, 1], [0, 0]), ("c", [0], [0])], "course": [[], [(0, 1)]], "derivation": [[], [("grow", "x", "a"), ("turn", 3)]],
    "choose": [lambda here, pairs: pairs[0]], "thing": [("a", [0], []), ([0], [1]), [(0, 1)], [[(0, 1)]], ([], [(0, 1)])],
    "text": [""], "way": [[(0, "put", 1), (7, "take", 0)], []], "s": [[], [0, 1]], "t": [[], [1]], "goal": ["a", "b"],
    "ties": [[("a", "b")], []], "names": [("p", "q")], "step": [("grow", "x", "a"), ("loop",)], "program": [PROGRAM, []], "kind": ["x", "y"],
    "surroundings": [LEAD], "one": [("a", [0], [])],
    "book": [[("a", PROGRAM), ("b", [("do", "a"), ("round", "x", [("do", "a"), ("do", "a")], "y")])]],
    "session": [SESSION], "machine": [MACHINE], "left": [([0, 0], [1, 1]), ([], [0])], "right": [([1], [0, 1]), ([], [1])],
}
# What else is right for some functions.
STILLS = {"net": [STILL, NET_AT_REST, WIRE], "other": [STILL, NET_AT_REST, WIRE], "end": ["a", "b"]}
OPEN = {"net": [CROSSED, WIRE, CUT], "other": [CROSSED, WIRE, CUT], "end": ["a", "b"]}
OWN = {
    "way_wrong": {"thing": [[], [(0, "put", 1)], [(0, "take", 0), (0, "put", 0)]]}, "is_way": {"thing": [[], [(0, "put", 1)]]},
    "never_wrong": {"thing": [(("a", [], []), [], [(0, "put", 1)]), []]}, "is_never": {"thing": [(("a", [], []), [], [(0, "put", 1)])]},
    "plugged": {"net": [NET], "other": [Net(["b", "d"], [("stop", "b"), ("x", "d", "e", "e")], [("l", "l")])], "ties": [[("a", "b"), ("b", "d")], [("b", "b")]]},
    "renamed": {"names": [{"a": "c", "b": "a", "c": "d"}]}, "reordered": {"ends": [["c", "a", "b"]]}, "lead": {"other": [("b", [], [])], "shut": [[("a", [1], [0])], []]},
    "compared": {"net": [NET, STILL], "other": [NET, STILL]}, "surrounded": {"net": [WIRE, CROSSED]}, "fares": {"net": [WIRE, CROSSED]},
    "asker_wrong": {"thing": [(0, [], [(1, "meet", 0)]), None]}, "is_asker_paper": {"thing": [(0, [], [(1, "meet", 0)])]},
    "met_ahead": {"index": [0, 1, 4]}, "never_rests": {"most": [0, 8]}, "is_surroundings": {"thing": [LEAD, WIRE]}, "is_program": {"thing": [PROGRAM, 3]},
    "is_table": {"table": [TABLE, [], None]}, "never_paper": {"most": [0, 30]}, "is_book": {"thing": [[("a", PROGRAM), ("b", [("do", "a")])], 3]},
    # Anything is passed as most, too: these end.
    "run": {"program": [ENDING, []], "x": [([0, 0], [0, 1])], "y": [([1], [0, 1])]}, "machine_run": {"left": [([0], [1]), ([], [0])], "right": [([1, 0], [0])]},
    "audit_rest": {"net": [OPENING, None], "course": ["0 1\n", "?"], "goal": ["net a b\njoin a b\nloop\n", "net\n"]},
    "audit_walk": {"net": [FORK, None], "goes": ["a 0 - to a 1 -\n", "shut a - -\n"], "way": ["0 take 0\n0 put 1\n", ""]},
    "audit_never": {"net": [AWAY], "shut": ["shut a - -\n", ""], "way": ["0 put 1\n", None], "again": ["0 put 0\n", ""]},
    "audit_pairing": {"net": [FORK], "table": ["a 0 - to a 1 -\n", "", 3], "ways": ["0 take 0\n0 put 1\n", ""]},
    "audit_alike": {"net": ["net a b\njoin a b\n", OPENING], "other": ["net a b\nx a p q\nx b p q\n", None], "steps": ["grow x a\n", ""]},
    "audit_parted": {"net": ["net a b\njoin a b\n"], "other": ["net a b\nstop a\nstop b\n"], "surroundings": ["net a b in out\njoin a in\njoin b out\n", "net\n"],
                     "course": ["", "0 1\n"], "second": ["", None]},
    "audit_compiled": {"program": ["turn x", None], "net": ["net in out\nx in p q\nx out q p\n", "net\n"]},
    "rest_paper": {"most": [0, 50]}, "pairing_paper": {"most": [0, 50]}, "alike_paper": OPEN, "parted_paper": OPEN, "building": {"net": [NET, STILL, Net([], [], [])]},
    "meaning": {"program": [ENDING, []]}, "programs_alike": {"program": [ENDING, []], "other": [ENDING, [], [("stop",)]]}, "is_in_out": {"thing": [IN_OUT, 3]}, "program_of_table": {"table": [IN_OUT, []]},
}
for _word in "inner trees pairs shut box_at opened form share".split():
    OWN[_word] = STILLS
for _word in "alike steps_at derivation parting tied_count without_end is_without".split():
    OWN[_word] = OPEN
for _word in "is_step stepped undone".split():
    OWN[_word] = {**OPEN, "thing": [("grow", "x", "a"), ("shrink", 0), None]}
OWN["stepped"] = {**OPEN, "net": [WIRE, Net(["a"], [("stop", "a")], [])]}
OWN["undone"] = OWN["stepped"]
OWN["copied"] = {"net": [WIRE, Net(["a", "b"], [("stop", "a"), ("stop", "b")], [])], "end": ["a", "b"]}
for _word in "derivation_wrong is_derivation parting_wrong".split():
    OWN[_word] = {**OPEN, "thing": [[], [("grow", "x", "a"), ("loop",)], (0, LEAD), None]}
TEXTS = {"read_session": "net a b\njoin a b\nwatch walk a 0 -\nhold does a - - to b - -\n", "read_way": "0 put 1\n12 take 0\n", "read_plan": "part p a\nstop a\nnet b\nuse p b\n", "read_net": "net a b\njoin a b\n", "read_table": "a 0 - to b - 1\nshut a 1 1\n",
         "read_program": "by x (nothing | stop) to y; turn x", "read_book": "a: stop\nb: do a\n",
         "read_endless": "0(1)", "read_course": "0 1\n2 5\n", "read_steps": "grow x a\nloop\nturn 3\n"}


def right_arguments(word, parameters):
    """All that can be made of right arguments, as lists of arguments in order."""
    told = [[]]
    for parameter in parameters:
        things = [TEXTS[word]] if word in TEXTS and parameter == "text" else OWN.get(word, {}).get(parameter) or RIGHT[parameter]
        told = [[*ahead, thing] for ahead in told for thing in things]
    return told


def copied(thing, kind):
    """The same thing, its lists and tuples of this kind, or as they are with None; nets and plans stay."""
    if isinstance(thing, (list, tuple)):
        parts = [copied(part, kind) for part in thing]
        return (kind or type(thing))(parts)
    if isinstance(thing, dict):
        return {key: copied(worth, kind) for key, worth in thing.items()}
    return thing


def lists_in(thing):
    """All lists and dicts in what is told, at every depth."""
    if isinstance(thing, dict):
        return [thing] + [one for worth in thing.values() for one in lists_in(worth)]
    if isinstance(thing, (list, tuple)):
        return ([thing] if isinstance(thing, list) else []) + [one for part in thing for one in lists_in(part)]
    return []


class InterfaceTest(unittest.TestCase):
    def test_functions(self):
        for name, word, parameters in landed():
            self.assertIn(word, defined_in(name))
            found = inspect.signature(getattr(importlib.import_module(f"twinforks.{name}"), word)).parameters
            self.assertEqual(list(found), parameters, word)
            for parameter in found.values():
                self.assertEqual((parameter.kind, parameter.default), (parameter.POSITIONAL_OR_KEYWORD, parameter.empty))

    def test_classes(self):
        for name, (head, methods) in METHODS.items():
            word, parameters = head[:-1].split("(")
            node = defined_in(name)[word]
            own = {one.name: one for one in node.body if isinstance(one, ast.FunctionDef)}
            self.assertEqual([arg.arg for arg in own["__init__"].args.args], ["self", *[part for part in parameters.split(",") if part]])
            for one in methods.split():
                method, more = one[:-1].split("(")
                self.assertEqual([arg.arg for arg in own[method].args.args], ["self", *[part for part in more.split(",") if part]])

    def test_any_object_raises_no_other_error(self):
        """Whatever is passed, either something is told or an error of the package's raised."""
        errors = importlib.import_module("twinforks.errors")
        for name, word, parameters in landed():
            work = getattr(importlib.import_module(f"twinforks.{name}"), word)
            right = dict(zip(parameters, right_arguments(word, parameters)[0]))
            for parameter in parameters:
                if parameter == "choose":
                    continue
                for thing in [*ANYTHING, deep(10000), [deep(10000)], [deep(3000), deep(3000)], "x" * 100000, 10 ** 6000, (10 ** 6000, 10 ** 6001),
                              [(0, 10 ** 6000)], [("turn", 10 ** 6000)], ("a", deep(3000), deep(3000)), [[0, 1]] * 300, [[1] * 3000, [0] * 3000]]:
                    if word == "tops" and isinstance(thing, int) and thing > 10 ** 6:
                        # No row is as long as that.
                        continue
                    things = {**right, parameter: thing}
                    try:
                        work(**things)
                    except errors.ForkError as error:
                        self.assertIsInstance(str(error), str)

    def test_right_arguments(self):
        """What is passed stays; what is told is new each time, no list in two places; lists and tuples are passed alike."""
        for name, word, parameters in landed():
            work = getattr(importlib.import_module(f"twinforks.{name}"), word)
            for things in right_arguments(word, parameters):
                ahead = [copied(thing, None) for thing in things]
                told = work(*things)
                self.assertEqual([copied(thing, None) for thing in things], ahead, word)
                inner = lists_in(told)
                self.assertEqual(len(inner), len({id(one) for one in inner}), word)
                passed = {id(one) for one in lists_in(things)}
                self.assertFalse([one for one in inner if id(one) in passed], word)
                snapshot = copied(told, None)
                for one in inner:
                    one.clear()
                self.assertEqual(work(*things), snapshot, word)
                for kind in (list, tuple):
                    self.assertEqual(work(*[copied(thing, kind) for thing in things]), snapshot, word)
                # By name, in another order.
                self.assertEqual(work(**dict(list(zip(parameters, things))[::-1])), snapshot, word)

    def test_methods_by_name(self):
        self.assertEqual(Net(joins=[("c", "c")], cells=[("stop", "a")], ends=["a"]), Net(["a"], [("stop", "a")], [("c", "c")]))
        self.assertEqual(NET.places(wire="a"), NET.places("a"))
        self.assertEqual(Plan(items=[("stop", "a")], ends=["a"], parts=PARTS), Plan(PARTS, ["a"], [("stop", "a")]))
        self.assertEqual(Machine(rules=MACHINE.rules(), states=MACHINE.states()), MACHINE)
        for session in (SESSION, Session()):
            for deed in (("stop", "z"), ("wire", "z", "y1"), ("watch", ("meetings",))):
                one, other = session.copy(), session.copy()
                self.assertEqual(one.would(deed=deed), other.would(deed))
                self.assertEqual(one.trial(work=lambda same: same.would(deed)), one.would(deed))
                if deed[0] == "watch" or not session.watched():
                    self.assertEqual(one.do(deed=deed), other.do(deed))
                self.assertEqual((one, one.at(number=0)), (other, other.at(0)))
            for question in (("open",), ("does", []), ("walk", ("a", [0], [])), None):
                self.assertEqual(session.is_question(thing=question), session.is_question(question))
                if session.is_question(question):
                    self.assertEqual(session.answer(question=question), session.answer(question))

    def test_package_has_a_docstring_alone(self):
        self.assertEqual(defined_in("__init__"), {})


if __name__ == "__main__":
    unittest.main()
