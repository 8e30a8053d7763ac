"""The package keeps to the part of Python that it is to be written in, as far as a walk over its files can see."""

import ast
import builtins
import os
import re
import unittest

TOP = os.path.dirname(os.path.dirname(os.path.abspath(__file__)))
PACKAGE = os.path.join(TOP, "packhall")

STATEMENTS = (
    ast.Assign, ast.AugAssign, ast.If, ast.While, ast.For, ast.Return, ast.Break, ast.Continue, ast.Pass, ast.Raise,
    ast.Try, ast.ExceptHandler, ast.Expr, ast.FunctionDef, ast.ClassDef, ast.ImportFrom,
)
EXPRESSIONS = (
    ast.Constant, ast.List, ast.Tuple, ast.Dict, ast.Set, ast.BinOp, ast.UnaryOp, ast.BoolOp, ast.Compare, ast.IfExp,
    ast.Call, ast.Attribute, ast.Subscript, ast.Slice, ast.ListComp, ast.comprehension, ast.JoinedStr,
    ast.FormattedValue, ast.Name, ast.Lambda,
)
OTHERS = (
    ast.Module, ast.arguments, ast.arg, ast.alias, ast.keyword, ast.expr_context, ast.operator, ast.unaryop,
    ast.boolop, ast.cmpop,
)
OWN_NAMES = """len range enumerate zip min max sum abs sorted reversed int str bool list tuple dict set frozenset isinstance
ord repr any all divmod Exception ValueError TypeError KeyError IndexError LookupError ZeroDivisionError
ArithmeticError OverflowError RuntimeError NotImplementedError AttributeError StopIteration""".split()
METHODS = """append clear copy count endswith extend find get index insert isalnum isalpha isdigit islower isspace isupper
items join keys ljust lower lstrip partition pop remove replace reverse rfind rjust rpartition rsplit rstrip setdefault
split splitlines startswith strip update upper values zfill bit_length""".split()
DUNDERS = ["__init__", "__eq__", "__repr__", "__str__", "__len__"]
UNSAID = """type typing typing_extensions enum Enum IntEnum StrEnum Flag IntFlag Generic Protocol ABC ABCMeta namedtuple
NamedTuple TypedDict TYPE_CHECKING abstractmethod""".split()
UNSAID_WITHIN = ["dataclass", "overload", "contextmanager"]
UNUSED = """register mro elements open input version_info with_traceback add_note format format_map""".split()

VIEWS = ["zip", "enumerate", "reversed", "range"]
VIEW_METHODS = ["items", "keys", "values"]
CHANGERS = ["append", "clear", "extend", "insert", "pop", "remove", "reverse", "setdefault", "update"]
WALKERS = ["list", "tuple", "dict", "sorted", "sum", "any", "all", "enumerate", "zip"]


def files():
    return sorted(name for name in os.listdir(PACKAGE) if name != "__pycache__")


def source(name):
    with open(os.path.join(PACKAGE, name), encoding="utf-8", newline="") as file:
        return file.read()


def trees():
    return [(name, ast.parse(source(name))) for name in files()]


def top_names(tree):
    names = []
    for node in tree.body:
        if isinstance(node, (ast.FunctionDef, ast.ClassDef)):
            names.append(node.name)
        elif isinstance(node, ast.Assign):
            names += [target.id for target in node.targets]
        elif isinstance(node, ast.ImportFrom):
            names += [alias.asname or alias.name for alias in node.names]
    return names


def defined_names(tree):
    own = [node for node in tree.body if not isinstance(node, ast.ImportFrom)]
    return top_names(ast.Module(body=own, type_ignores=[]))


def is_call_of(node, names):
    return isinstance(node, ast.Call) and isinstance(node.func, ast.Name) and node.func.id in names


def is_view(node):
    """Whether a value is one that is only walked on the spot."""
    if is_call_of(node, VIEWS):
        return True
    return isinstance(node, ast.Call) and isinstance(node.func, ast.Attribute) and node.func.attr in VIEW_METHODS


def walked_on_the_spot(tree):
    places = []
    for node in ast.walk(tree):
        if isinstance(node, (ast.For, ast.comprehension)):
            places.append(node.iter)
        elif is_call_of(node, ["zip"]):
            places += node.args
        elif is_call_of(node, WALKERS):
            places += node.args[:1]
        elif is_call_of(node, ["min", "max"]) and len(node.args) == 1:
            places += node.args
        elif isinstance(node, ast.Call) and isinstance(node.func, ast.Attribute) and node.func.attr == "join":
            places += node.args
    return places


def walked_by_name(loop):
    """The names that a loop walks, itself or through what only hands them on."""
    if isinstance(loop.iter, ast.Call):
        return [node.id for node in loop.iter.args if isinstance(node, ast.Name)] if is_view(loop.iter) else []
    return [loop.iter.id] if isinstance(loop.iter, ast.Name) else []


def changed_by_name(loop):
    changed = []
    for node in ast.walk(loop):
        if isinstance(node, ast.Call) and isinstance(node.func, ast.Attribute) and node.func.attr in CHANGERS:
            changed.append(node.func.value)
        elif isinstance(node, ast.Subscript) and isinstance(node.ctx, ast.Store):
            changed.append(node.value)
    return [node.id for node in changed if isinstance(node, ast.Name)]


def inner_names(tree):
    names = [node.arg for node in ast.walk(tree) if isinstance(node, ast.arg)]
    names += [node.id for node in ast.walk(tree) if isinstance(node, ast.Name) and isinstance(node.ctx, ast.Store)]
    return names


class Language(unittest.TestCase):
    def test_files(self):
        self.assertIn("__init__.py", files())
        for name in files():
            self.assertRegex(name, r"^([a-z][a-z0-9_]*|__init__|__main__)\.py$")
            self.assertNotIn(name[:-3], dir(builtins))

    def test_signs_and_sizes(self):
        for name in files():
            text = source(name)
            self.assertRegex(text, r"^[ -~\n]*$", name)
            rows = text.split("\n")
            self.assertLessEqual(len(rows), 401, name)
            self.assertLessEqual(max(len(row) for row in rows), 120, name)
            for node in ast.walk(ast.parse(text)):
                if isinstance(node, ast.FunctionDef):
                    self.assertLessEqual(node.end_lineno - node.lineno + 1, 40, node.name)

    def test_words_that_are_not_said(self):
        for name in files():
            words = re.findall(r"[A-Za-z0-9_]+", source(name))
            for word in UNSAID:
                self.assertNotIn(word, words, name)
            for word in UNSAID_WITHIN:
                self.assertNotIn(word, source(name), name)

    def test_kinds_of_nodes(self):
        for name, tree in trees():
            for node in ast.walk(tree):
                self.assertIsInstance(node, STATEMENTS + EXPRESSIONS + OTHERS, name)
                self.look_at(node, "%s, row %s" % (name, getattr(node, "lineno", 0)))

    def look_at(self, node, where):
        if isinstance(node, ast.Assign):
            self.assertEqual(len(node.targets), 1, where)
            self.assertIsInstance(node.targets[0], (ast.Name, ast.Subscript, ast.Attribute), where)
        elif isinstance(node, (ast.For, ast.While)):
            self.assertEqual(node.orelse, [], where)
        elif isinstance(node, ast.Try):
            self.assertEqual(node.finalbody, [], where)
        elif isinstance(node, ast.ListComp):
            self.assertEqual(len(node.generators), 1, where)
            self.assertLessEqual(len(node.generators[0].ifs), 1, where)
        elif isinstance(node, ast.BinOp):
            self.assertNotIsInstance(node.op, (ast.Div, ast.MatMult), where)
            if isinstance(node.op, ast.Pow):
                self.assertIsInstance(node.right, ast.Constant, where)
        elif isinstance(node, ast.Compare):
            for op, right in zip(node.ops, node.comparators):
                if isinstance(op, (ast.Is, ast.IsNot)):
                    self.assertIsInstance(right, ast.Constant, where)
        elif isinstance(node, ast.Constant):
            self.assertIsInstance(node.value, (int, str, bool, type(None)), where)
            self.assertFalse(isinstance(node.value, str) and "%" in node.value, where)
        elif isinstance(node, ast.arguments):
            self.assertFalse(node.vararg or node.kwarg or node.kwonlyargs or node.posonlyargs, where)
        elif isinstance(node, (ast.FunctionDef, ast.ClassDef)):
            self.assertEqual(node.decorator_list, [], where)

    def test_expressions_by_themselves_are_calls_or_the_head(self):
        for name, tree in trees():
            self.assertIsInstance(ast.get_docstring(tree), str, name)
            for node in ast.walk(tree):
                if isinstance(node, ast.Expr) and node is not tree.body[0]:
                    self.assertIsInstance(node.value, ast.Call, name)

    def test_top_of_a_module(self):
        for name, tree in trees():
            names = top_names(tree)
            self.assertEqual(len(names), len(set(names)), name)
            for node in tree.body[1:]:
                self.assertIsInstance(node, (ast.ImportFrom, ast.FunctionDef, ast.ClassDef, ast.Assign), name)

    def test_imports(self):
        drawn = {}
        for name, tree in trees():
            drawn[name] = []
            for node in ast.walk(tree):
                if isinstance(node, ast.ImportFrom):
                    self.assertEqual((node.level, node.module.split(".")[0]), (0, "packhall"), name)
                    other = node.module.split(".")[1] + ".py"
                    drawn[name].append(other)
                    defined = defined_names(ast.parse(source(other)))
                    for alias in node.names:
                        self.assertIn(alias.name, defined, name)
        left = dict(drawn)
        while left:
            free = [name for name in left if not any(other in left for other in left[name])]
            self.assertNotEqual(free, [], "files draw from one another: %s" % sorted(left))
            for name in free:
                left.pop(name)

    def test_names(self):
        for name, tree in trees():
            top = top_names(tree)
            inner = inner_names(tree)
            for word in top + inner:
                self.assertRegex(word, r"^[A-Za-z][A-Za-z0-9_]*$", name)
                self.assertNotIn(word, dir(builtins), name)
                self.assertNotIn(word, UNUSED, name)
            drawn = [node for node in tree.body if isinstance(node, (ast.ImportFrom, ast.ClassDef))]
            for word in top_names(ast.Module(body=drawn, type_ignores=[])):
                self.assertNotIn(word, inner, name)
            for node in ast.walk(tree):
                if isinstance(node, ast.Name):
                    self.assertIn(node.id, top + inner + OWN_NAMES, name)

    def test_methods(self):
        own = []
        for name, tree in trees():
            for node in ast.walk(tree):
                if isinstance(node, ast.ClassDef):
                    own += [part.name for part in node.body if isinstance(part, ast.FunctionDef)]
                if isinstance(node, ast.Attribute) and isinstance(node.ctx, ast.Store):
                    own.append(node.attr)
        for word in own:
            self.assertTrue(word in DUNDERS or not word.startswith("_"), word)
            self.assertNotIn(word, UNUSED)
        for name, tree in trees():
            for node in ast.walk(tree):
                if isinstance(node, ast.Attribute):
                    self.assertIn(node.attr, METHODS + own + DUNDERS, name)

    def test_walked_at_once(self):
        for name, tree in trees():
            walked = walked_on_the_spot(tree)
            for node in ast.walk(tree):
                if is_view(node):
                    self.assertIn(node, walked, "%s, row %s" % (name, node.lineno))

    def test_what_is_walked_is_not_changed(self):
        for name, tree in trees():
            for node in ast.walk(tree):
                if isinstance(node, ast.For):
                    both = set(walked_by_name(node)) & set(changed_by_name(node))
                    self.assertEqual(both, set(), "%s, row %s" % (name, node.lineno))

    def test_refusals_are_the_programs_own(self):
        own = defined_names(ast.parse(source("errors.py")))
        for name, tree in trees():
            for node in ast.walk(tree):
                if isinstance(node, ast.ExceptHandler):
                    self.assertIsInstance(node.type, ast.Name, name)
                    self.assertIn(node.type.id, own, name)
                elif isinstance(node, ast.Raise):
                    self.assertTrue(is_call_of(node.exc, own), "%s, row %s" % (name, node.lineno))

    def test_classes(self):
        methods = []
        values = []
        for name, tree in trees():
            for node in ast.walk(tree):
                if isinstance(node, ast.ClassDef):
                    self.assertIn(node, tree.body, name)
                    self.assertLessEqual(len(node.bases), 1, node.name)
                    self.assertEqual(node.keywords, [], node.name)
                    defs = [part.name for part in node.body if not isinstance(part, ast.Pass)]
                    self.assertEqual(len(defs), len(set(defs)), node.name)
                    methods += defs
                elif isinstance(node, ast.Attribute) and isinstance(node.ctx, ast.Store):
                    values.append(node.attr)
                elif isinstance(node, ast.FunctionDef) and node.name == "__init__":
                    for part in ast.walk(node):
                        self.assertFalse(isinstance(part, ast.Return) and part.value is not None, name)
        self.assertEqual(set(methods) & set(values), set())
        for word in methods + values:
            for kind in (str, int, list, dict, set, bytes):
                self.assertFalse(word not in DUNDERS + METHODS + ["add", "discard"] and hasattr(kind, word), word)


if __name__ == "__main__":
    unittest.main()
