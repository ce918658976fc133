"""The interface of what has landed, and what [2], [3], [5] tell of all of it."""

import ast
import importlib
import inspect
import pathlib
import unittest

from anything import ANYTHING, deep
from twinforks.nets import Net
from twinforks.plans import Plan

ROOT = pathlib.Path(__file__).resolve().parent.parent / "twinforks"
FUNCTIONS = """
forms: is_row(thing) is_endless(thing) least_endless(endless) figure_at(endless,index) is_box(ends,thing)
unrolling: unrolled(plan) unrolled_counts(plan)
plantexts: plan_text(plan) net_text(net) read_plan(text) read_net(text) plan_fault(text) plan_goes_on(text)
tabletexts: table_text(ends,table,shut) read_table(ends,text) table_fault(ends,text) table_goes_on(ends,text)
papertexts: endless_text(endless) read_endless(text) endless_fault(text) course_text(course) read_course(text) course_fault(text)
papertexts: steps_text(derivation) read_steps(text) steps_fault(text)
meetings: meetings(net) sort_of(net,pair) met(net,pair)
courses: course_wrong(net,thing) is_course(net,thing) behind_course(net,course) course_sorts(net,course)
resting: rest(net,most) rest_by(net,choose,most) rest_sorts(net,most)
rounds: some_at_once(net,lot) all_at_once(net) schedule(net,most) schedule_wrong(net,thing) is_schedule(net,thing)
earliests: earliest(net,course)
comings: coming_round_wrong(net,thing) is_coming_round(net,thing) coming_round(net,most)
endless: tops(endless,many) drop_tops(endless,many) put_all(figures,endless) first_unlike(endless,other)
walking: walk(net,end,x,y,most) way(net,end,x,y,most) box_walked(net,box,most)
"""
METHODS = {
    "nets": ("Net(ends,cells,joins)", "ends() cells() joins() loops() wires() places(wire) __eq__(other)"),
    "plans": ("Plan(parts,ends,items)", "parts() ends() body() __eq__(other)"),
}


def landed():
    """The functions as triples (file, name, parameters)."""
    told = []
    for line in FUNCTIONS.strip().split("\n"):
        name, functions = line.split(": ")
        for one in functions.split():
            word, parameters = one[:-1].split("(")
            told.append((name, word, parameters.split(",")))
    return told


def defined_in(name):
    tree = ast.parse((ROOT / f"{name}.py").read_text())
    return {node.name: node for node in tree.body if isinstance(node, (ast.FunctionDef, ast.ClassDef))}


class InterfaceTest(unittest.TestCase):
    def test_functions(self):
        for name, word, parameters in landed():
            self.assertIn(word, defined_in(name))
            found = inspect.signature(getattr(importlib.import_module(f"twinforks.{name}"), word)).parameters
            self.assertEqual(list(found), parameters, word)
            for parameter in found.values():
                self.assertEqual((parameter.kind, parameter.default), (parameter.POSITIONAL_OR_KEYWORD, parameter.empty))

    def test_classes(self):
        for name, (head, methods) in METHODS.items():
            word, parameters = head[:-1].split("(")
            node = defined_in(name)[word]
            own = {one.name: one for one in node.body if isinstance(one, ast.FunctionDef)}
            self.assertEqual([arg.arg for arg in own["__init__"].args.args], ["self", *parameters.split(",")])
            for one in methods.split():
                method, more = one[:-1].split("(")
                self.assertEqual([arg.arg for arg in own[method].args.args], ["self", *[part for part in more.split(",") if part]])

    def test_any_object_raises_no_other_error(self):
        """Whatever is passed, either something is told or an error of the package's raised."""
        net = Net(["a", "b"], [("x", "w", "a", "c"), ("x", "w", "b", "c")], [])
        right = {"net": net, "plan": Plan([], [], []), "ends": ["a", "b"], "endless": ([], [0]), "x": ([], [0]), "y": ([0], [1]), "most": 3,
                 "text": "", "table": [], "shut": [], "pair": (0, 1), "course": [(0, 1)], "derivation": [], "index": 2, "many": 2, "lot": [(0, 1)],
                 "choose": lambda here, pairs: pairs[0], "figures": [1], "other": ([1], [0]), "end": "a", "box": ("a", [], []), "thing": None}
        errors = importlib.import_module("twinforks.errors")
        for name, word, parameters in landed():
            work = getattr(importlib.import_module(f"twinforks.{name}"), word)
            for parameter in parameters:
                if parameter == "choose":
                    continue
                for thing in [*ANYTHING, deep(10000), [deep(10000)], [deep(3000), deep(3000)], "x" * 100000, 10 ** 6000, (10 ** 6000, 10 ** 6001),
                              [(0, 10 ** 6000)], [("turn", 10 ** 6000)], ("a", deep(3000), deep(3000)), [[0, 1]] * 300, [[1] * 3000, [0] * 3000]]:
                    if word == "tops" and isinstance(thing, int) and thing > 10 ** 6:
                        # No row is as long as that.
                        continue
                    things = {one: right[one] for one in parameters}
                    things[parameter] = thing
                    try:
                        work(**things)
                    except errors.ForkError as error:
                        self.assertIsInstance(str(error), str)

    def test_package_has_a_docstring_alone(self):
        self.assertEqual(defined_in("__init__"), {})


if __name__ == "__main__":
    unittest.main()
