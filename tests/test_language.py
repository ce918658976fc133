"""The rules of the language that can be seen in the files of the package, one by one."""

import ast
import builtins
import pathlib
import unittest

ROOT = pathlib.Path(__file__).resolve().parent.parent / "twinforks"
FILES = sorted(ROOT.glob("*.py"))
TREES = {path.stem: ast.parse(path.read_text(encoding="utf-8")) for path in FILES}

ALLOWED_BUILTINS = set(
    "len range enumerate zip min max sum abs sorted reversed int str bool list tuple dict set isinstance ord repr"
    " any all divmod Exception ValueError TypeError KeyError super".split())
ALLOWED_METHODS = set(
    "append clear copy count endswith extend find get index insert isalnum isalpha isdigit islower isspace isupper"
    " items join keys ljust lower lstrip partition pop remove replace reverse rfind rjust rpartition rsplit rstrip"
    " setdefault split splitlines startswith strip update upper values zfill bit_length".split())
NOWHERE = {"register", "mro", "elements", "open", "input", "law", "version_info", "with_traceback", "add_note"}
WORDS = set(
    "type typing typing_extensions enum Enum IntEnum StrEnum Flag IntFlag Generic Protocol ABC ABCMeta namedtuple"
    " NamedTuple TypedDict TYPE_CHECKING abstractmethod".split())
NO_ATTRIBUTES = set(
    "items keys values pop update append clear extend insert remove reverse setdefault sort args encode decode hex"
    " fromhex format".split())
NOT_USED = (ast.AsyncFunctionDef, ast.Global, ast.ExceptHandler, ast.With, ast.Match, ast.Yield, ast.YieldFrom, ast.Await,
            ast.GeneratorExp, ast.Set, ast.SetComp, ast.AnnAssign, ast.NamedExpr, ast.Import, ast.Pow, ast.Div)
DUNDERS = {"__init__", "__eq__"}
# Methods of the interface that lists have, too.
LIKE_BUILTINS = {"count", "copy"}


def functions_of(tree):
    return [node for node in ast.walk(tree) if isinstance(node, ast.FunctionDef)]


def classes_of(tree):
    return [node for node in tree.body if isinstance(node, ast.ClassDef)]


def bound_in(function):
    """Parameters and all names that a function assigns."""
    names = [arg.arg for arg in function.args.args]
    for node in ast.walk(function):
        if isinstance(node, ast.Name) and isinstance(node.ctx, ast.Store):
            names.append(node.id)
    return names


class LanguageTest(unittest.TestCase):
    def test_package_holds_python_files_alone(self):
        names = [path.name for path in ROOT.iterdir() if path.name != "__pycache__"]
        self.assertEqual(sorted(names), sorted(path.name for path in FILES))
        self.assertIn("__init__.py", names)
        self.assertLessEqual(len(names), 100)

    def test_files_and_lines(self):
        for path in FILES:
            text = path.read_text(encoding="utf-8")
            lines = text.split("\n")
            self.assertLessEqual(len(lines), 399, path.name)
            for at, line in enumerate(lines):
                self.assertLessEqual(len(line), 120, (path.name, at + 1))
                self.assertTrue(all(" " <= sign <= "~" for sign in line), (path.name, at + 1))

    def test_functions_are_short(self):
        for name, tree in TREES.items():
            for function in functions_of(tree):
                many = function.end_lineno - function.lineno + 1
                self.assertLessEqual(many, 40, (name, function.name))
                self.assertEqual(function.decorator_list, [], (name, function.name))

    def test_statements_that_are_not_used(self):
        for name, tree in TREES.items():
            for node in ast.walk(tree):
                self.assertNotIsInstance(node, NOT_USED, (name, getattr(node, "lineno", 0)))
                if isinstance(node, ast.Constant):
                    self.assertNotIsInstance(node.value, (float, complex, bytes), name)
                if isinstance(node, (ast.Is, ast.IsNot)):
                    continue
                if isinstance(node, ast.Compare) and isinstance(node.ops[0], (ast.Is, ast.IsNot)):
                    self.assertIsInstance(node.comparators[0], ast.Constant, (name, node.lineno))

    def test_what_a_finally_holds(self):
        """Names are put back to attributes, and nothing else is done."""
        for name, tree in TREES.items():
            for node in ast.walk(tree):
                if isinstance(node, ast.Try):
                    self.assertEqual(name, "sessions")
                    for one in node.finalbody:
                        self.assertIsInstance(one, ast.Assign)
                        self.assertIsInstance(one.targets[0], ast.Attribute)
                        self.assertIsInstance(one.value, ast.Name)

    def test_f_strings(self):
        """No string within the braces, and no backslash in one that has braces within them."""
        for name, tree in TREES.items():
            for node in ast.walk(tree):
                if isinstance(node, ast.FormattedValue):
                    inner = [one for one in ast.walk(node.value) if isinstance(one, ast.Constant)]
                    self.assertFalse([one for one in inner if isinstance(one.value, str)], (name, node.lineno))

    def test_module_level(self):
        for name, tree in TREES.items():
            bound = []
            for node in tree.body:
                if isinstance(node, ast.ImportFrom):
                    bound.extend(alias.name for alias in node.names)
                elif isinstance(node, (ast.FunctionDef, ast.ClassDef)):
                    bound.append(node.name)
                elif isinstance(node, ast.Assign):
                    bound.extend(target.id for target in node.targets)
                    self.assertNotIsInstance(node.value, (ast.Call, ast.ListComp, ast.DictComp), name)
                else:
                    self.assertIsInstance(node, ast.Expr, name)
                    self.assertIsInstance(node.value, ast.Constant, name)
            self.assertEqual(len(bound), len(set(bound)), name)

    def test_imports_name_the_file_that_defines(self):
        for name, tree in TREES.items():
            for node in tree.body:
                if isinstance(node, ast.ImportFrom):
                    self.assertEqual(node.level, 0)
                    self.assertTrue(node.module.startswith("twinforks."), (name, node.module))
                    other = TREES[node.module.split(".")[1]]
                    defined = [one.name for one in other.body if isinstance(one, (ast.FunctionDef, ast.ClassDef))]
                    defined += [one.targets[0].id for one in other.body if isinstance(one, ast.Assign)]
                    for alias in node.names:
                        self.assertIn(alias.name, defined, (name, node.module))
                        self.assertIsNone(alias.asname)

    def test_imports_are_used(self):
        for name, tree in TREES.items():
            used = {node.id for node in ast.walk(tree) if isinstance(node, ast.Name)}
            for node in tree.body:
                if isinstance(node, ast.ImportFrom):
                    for alias in node.names:
                        self.assertIn(alias.name, used, name)

    def test_no_two_files_import_from_each_other(self):
        ahead = {}
        for name, tree in TREES.items():
            ahead[name] = {node.module.split(".")[1] for node in tree.body if isinstance(node, ast.ImportFrom)}
        left = dict(ahead)
        while left:
            done = [name for name in left if not left[name] & set(left)]
            self.assertTrue(done, "these import in a circle: " + " ".join(sorted(left)))
            for name in done:
                del left[name]

    def test_names(self):
        for name, tree in TREES.items():
            defined = {node.name for node in tree.body if isinstance(node, (ast.FunctionDef, ast.ClassDef))}
            classes = {node.name for node in classes_of(tree)}
            imported = {alias.name for node in tree.body if isinstance(node, ast.ImportFrom) for alias in node.names}
            for function in functions_of(tree):
                for bound in bound_in(function):
                    self.assertNotIn(bound, imported | classes, (name, function.name))
                    self.assertFalse(hasattr(builtins, bound), (name, function.name, bound))
                    self.assertNotIn(bound, NOWHERE, (name, function.name))
            for one in defined:
                self.assertFalse(hasattr(builtins, one), (name, one))

    def test_builtins(self):
        for name, tree in TREES.items():
            for node in ast.walk(tree):
                if isinstance(node, ast.Name) and hasattr(builtins, node.id):
                    self.assertIn(node.id, ALLOWED_BUILTINS, (name, node.lineno))

    def test_methods_and_attributes(self):
        methods = {one.name for tree in TREES.values() for node in classes_of(tree) for one in functions_of(node)}
        stored = {node.attr for tree in TREES.values() for node in ast.walk(tree)
                  if isinstance(node, ast.Attribute) and isinstance(node.ctx, ast.Store)}
        self.assertEqual(methods & stored, set())
        self.assertEqual(stored & NO_ATTRIBUTES, set())
        for name, tree in TREES.items():
            for node in ast.walk(tree):
                if isinstance(node, ast.Attribute):
                    known = stored | methods | ALLOWED_METHODS
                    self.assertIn(node.attr, known, (name, node.lineno))
                    self.assertNotIn(node.attr, NOWHERE, (name, node.lineno))
        for method in methods:
            self.assertTrue(not method.startswith("__") or method in DUNDERS, method)
            if method not in DUNDERS | LIKE_BUILTINS:
                self.assertFalse(hasattr("", method) or hasattr([], method) or hasattr({}, method), method)

    def test_strings(self):
        for name, tree in TREES.items():
            for node in ast.walk(tree):
                if isinstance(node, ast.Constant) and isinstance(node.value, str):
                    self.assertNotIn("%", node.value, (name, node.lineno))
                if isinstance(node, ast.Name):
                    self.assertNotIn(node.id, WORDS, (name, node.lineno))
                if isinstance(node, ast.Attribute):
                    self.assertNotIn(node.attr, WORDS, (name, node.lineno))

    def test_errors_are_raised_on_the_spot(self):
        for name, tree in TREES.items():
            for node in ast.walk(tree):
                if isinstance(node, ast.Raise):
                    self.assertIsInstance(node.exc, ast.Call, (name, node.lineno))
                    self.assertIsInstance(node.exc.func, ast.Name, (name, node.lineno))

    def test_views_are_iterated_at_once(self):
        for name, tree in TREES.items():
            for node in ast.walk(tree):
                if isinstance(node, ast.Assign) and isinstance(node.value, ast.Call):
                    called = node.value.func
                    word = called.id if isinstance(called, ast.Name) else called.attr
                    self.assertNotIn(word, {"zip", "enumerate", "reversed", "range", "items", "keys", "values"},
                                     (name, node.lineno))

    def test_attributes_are_assigned_through_local_names(self):
        for name, tree in TREES.items():
            for node in ast.walk(tree):
                if isinstance(node, ast.Attribute) and isinstance(node.ctx, ast.Store):
                    self.assertIsInstance(node.value, ast.Name, (name, node.lineno))

    def test_views_are_handed_to_no_method(self):
        for name, tree in TREES.items():
            for node in ast.walk(tree):
                if isinstance(node, ast.Call) and isinstance(node.func, ast.Attribute) and node.func.attr != "join":
                    for thing in node.args:
                        if isinstance(thing, ast.Call) and isinstance(thing.func, ast.Name):
                            self.assertNotIn(thing.func.id, {"zip", "enumerate", "reversed", "range"}, (name, node.lineno))


if __name__ == "__main__":
    unittest.main()
