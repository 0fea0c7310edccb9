"""Asks of the package's own files what can be seen of the part of Python they keep to."""

import ast
import os
import re
import unittest

PACKAGE = os.path.join(os.path.dirname(os.path.dirname(os.path.abspath(__file__))), "chordwebs")

STATEMENTS = (
    ast.FunctionDef, ast.ClassDef, ast.Assign, ast.AugAssign, ast.If, ast.While, ast.For, ast.Return, ast.Break,
    ast.Continue, ast.Pass, ast.Raise, ast.Try, ast.Expr, ast.ImportFrom,
)
EXPRESSIONS = (
    ast.Constant, ast.Name, ast.Attribute, ast.Subscript, ast.Slice, ast.List, ast.Tuple, ast.Dict, ast.Set,
    ast.BinOp, ast.UnaryOp, ast.BoolOp, ast.Compare, ast.IfExp, ast.Call, ast.ListComp, ast.JoinedStr,
    ast.FormattedValue, ast.Lambda,
)
BUILT_IN = (
    "len range enumerate zip min max sum abs sorted reversed int str bool list tuple dict set frozenset isinstance "
    "ord repr any all divmod Exception ValueError TypeError KeyError IndexError LookupError ZeroDivisionError "
    "ArithmeticError OverflowError RuntimeError NotImplementedError AttributeError StopIteration"
).split()
METHODS = (
    "append clear copy count endswith extend find get index insert isalnum isalpha isdigit islower isspace isupper "
    "items join keys ljust lower lstrip partition pop remove replace reverse rfind rjust rpartition rsplit rstrip "
    "setdefault split splitlines startswith strip update upper values zfill bit_length"
).split()
DUNDERS = ("__init__", "__eq__", "__repr__", "__str__", "__len__")
NO_WORDS = (
    "type typing typing_extensions enum Enum IntEnum StrEnum Flag IntFlag Generic Protocol ABC ABCMeta namedtuple "
    "NamedTuple TypedDict TYPE_CHECKING abstractmethod"
).split()
NO_PARTS = ("dataclass", "overload", "contextmanager")
ASKED_KINDS = ("int", "str", "bool", "list", "tuple", "dict")
WALKS = ("zip", "enumerate", "reversed", "range")
WALKERS = ("list", "tuple", "dict", "sorted", "sum", "any", "all", "enumerate", "zip", "min", "max")
KEYWORDS = {
    "sorted": ("key", "reverse"), "min": ("key", "default"), "max": ("key", "default"), "sum": ("start",),
    "enumerate": ("start",), "zip": ("strict",),
}


def sources():
    found = {}
    for name in sorted(os.listdir(PACKAGE)):
        if name != "__pycache__":
            with open(os.path.join(PACKAGE, name), encoding="utf-8", newline="") as file:
                found[name] = file.read()
    return found


def trees():
    return {name: ast.parse(text) for name, text in sources().items()}


def bound_at_top(tree):
    names = []
    for node in tree.body:
        if isinstance(node, (ast.FunctionDef, ast.ClassDef)):
            names.append(node.name)
        elif isinstance(node, ast.ImportFrom):
            names.extend(alias.asname or alias.name for alias in node.names)
        elif isinstance(node, ast.Assign):
            names.extend(target.id for target in node.targets)
    return names


def locals_of(function):
    names = [argument.arg for argument in function.args.args]
    stored = [node for node in ast.walk(function) if isinstance(node, ast.Name) and isinstance(node.ctx, ast.Store)]
    return names + [node.id for node in stored]


def with_parents(tree):
    """Each node of a tree and that in which it stands."""
    return [(child, node) for node in ast.walk(tree) for child in ast.iter_child_nodes(node)]


def called(node):
    """The plain name that is called, or None."""
    return node.func.id if isinstance(node, ast.Call) and isinstance(node.func, ast.Name) else None


def is_walked(node, parent):
    if isinstance(parent, (ast.For, ast.comprehension)):
        return parent.iter is node
    if isinstance(parent, ast.Call) and isinstance(parent.func, ast.Attribute):
        return parent.func.attr == "join" and isinstance(parent.func.value, ast.Constant)
    return called(parent) in WALKERS and parent.args[0] is node


def is_set_in_its_place(node, parent, grand):
    if isinstance(parent, ast.BinOp):
        return called(grand) in ("sorted", "len") and not grand.keywords
    if isinstance(parent, ast.Compare):
        return isinstance(parent.ops[0], (ast.In, ast.NotIn, ast.Eq, ast.NotEq))
    return called(parent) in ("sorted", "len") and not parent.keywords


def drawn_from(tree):
    return [node.module for node in tree.body if isinstance(node, ast.ImportFrom)]


class Form(unittest.TestCase):
    def test_files(self):
        self.assertIn("__init__.py", sources())
        for name in sources():
            self.assertRegex(name, r"\A([a-z][a-z0-9_]*|__init__|__main__)\.py\Z")
            self.assertNotRegex(name, r"\A(test|tests|testing|test_.*|site|conftest)\.py\Z")

    def test_signs_and_sizes(self):
        for name, text in sources().items():
            lines = text.split("\n")
            self.assertLessEqual(len(lines), 401, name)
            for line in lines:
                self.assertLessEqual(len(line), 120, name)
                self.assertRegex(line, r"\A[ -~]*\Z", name)
            for node in ast.walk(ast.parse(text)):
                if isinstance(node, ast.FunctionDef):
                    self.assertLessEqual(node.end_lineno - node.lineno + 1, 40, node.name)

    def test_words(self):
        for name, text in sources().items():
            words = re.findall(r"\w+", text)
            self.assertEqual([word for word in words if word in NO_WORDS], [], name)
            self.assertEqual([part for part in NO_PARTS if part in text], [], name)

    def test_imports(self):
        top = {"chordwebs." + name[:-3]: bound_at_top(tree) for name, tree in trees().items()}
        for name, tree in trees().items():
            for node in ast.walk(tree):
                if isinstance(node, ast.ImportFrom):
                    self.assertIn(node, tree.body, name)
                    self.assertEqual(node.level, 0, name)
                    self.assertIn(node.module, top, name)
                    for alias in node.names:
                        self.assertIn(alias.name, top[node.module], name)

    def test_no_two_files_draw_from_one_another(self):
        draws = {"chordwebs." + name[:-3]: drawn_from(tree) for name, tree in trees().items()}
        free = []
        while len(free) < len(draws):
            ready = [name for name in draws if name not in free and all(other in free for other in draws[name])]
            self.assertNotEqual(ready, [], "files draw from one another")
            free.extend(ready)

    def test_names_at_the_top_stand_once(self):
        for name, tree in trees().items():
            self.assertEqual(sorted(bound_at_top(tree)), sorted(set(bound_at_top(tree))), name)

    def test_statements_and_expressions(self):
        for name, tree in trees().items():
            for node in ast.walk(tree):
                where = f"{name}:{getattr(node, 'lineno', 0)}"
                if isinstance(node, ast.stmt):
                    self.assertIsInstance(node, STATEMENTS, where)
                if isinstance(node, ast.expr):
                    self.assertIsInstance(node, EXPRESSIONS, where)
                self.plain(node, where)

    def plain(self, node, where):
        if isinstance(node, ast.Assign):
            self.assertEqual(len(node.targets), 1, where)
        if isinstance(node, (ast.For, ast.While)):
            self.assertEqual(node.orelse, [], where)
        if isinstance(node, ast.Try):
            self.assertEqual(node.finalbody, [], where)
        if isinstance(node, ast.ListComp):
            self.assertEqual(len(node.generators), 1, where)
            self.assertLessEqual(len(node.generators[0].ifs), 1, where)
        if isinstance(node, ast.BinOp):
            self.assertNotIsInstance(node.op, (ast.Div, ast.MatMult), where)
        if isinstance(node, ast.Constant):
            self.assertTrue(node.value is None or isinstance(node.value, (int, str)), where)
        if isinstance(node, ast.FunctionDef):
            self.assertEqual((node.decorator_list, node.returns, node.args.kwonlyargs), ([], None, []), where)
            self.assertIsNone(node.args.vararg or node.args.kwarg, where)
        if isinstance(node, ast.ClassDef):
            self.assertEqual((node.decorator_list, node.keywords), ([], []), where)
            self.assertLessEqual(len(node.bases), 1, where)
        if isinstance(node, ast.Compare) and any(isinstance(op, (ast.Is, ast.IsNot)) for op in node.ops):
            self.assertIsInstance(node.comparators[-1], ast.Constant, where)

    def test_texts_without_the_percent_sign(self):
        for name, tree in trees().items():
            for node in ast.walk(tree):
                if isinstance(node, ast.Constant) and isinstance(node.value, str):
                    self.assertNotIn("%", node.value, name)

    def test_names(self):
        python_own = dir(__builtins__) if not isinstance(__builtins__, dict) else list(__builtins__)
        for name, tree in trees().items():
            for node in ast.walk(tree):
                if isinstance(node, ast.FunctionDef):
                    self.assertTrue(node.name in DUNDERS or not node.name.startswith("_"), node.name)
                    for local in locals_of(node):
                        self.assertFalse(local.startswith("_"), f"{name}: {local}")
                        self.assertNotIn(local, python_own, name)
                        self.assertNotIn(local, bound_at_top(tree), name)
                if isinstance(node, ast.Name) and node.id in python_own:
                    self.assertIn(node.id, BUILT_IN, name)

    def test_methods(self):
        defined = [node.name for tree in trees().values() for node in ast.walk(tree)
                   if isinstance(node, ast.FunctionDef)]
        for name, tree in trees().items():
            for node in ast.walk(tree):
                if isinstance(node, ast.Call) and isinstance(node.func, ast.Attribute):
                    self.assertIn(node.func.attr, METHODS + defined, name)

    def test_walked_at_once(self):
        for name, tree in trees().items():
            for node, parent in with_parents(tree):
                if called(node) in WALKS:
                    self.assertTrue(is_walked(node, parent), f"{name}:{node.lineno}")
                if isinstance(node, ast.Attribute) and node.attr in ("items", "keys", "values"):
                    self.fail(f"{name}:{node.lineno} is to be looked at")

    def test_sets(self):
        for name, tree in trees().items():
            inside = dict(with_parents(tree))
            for node, parent in inside.items():
                self.assertNotIsInstance(node, ast.Set, name)
                if called(node) in ("set", "frozenset"):
                    self.assertTrue(is_set_in_its_place(node, parent, inside.get(parent)), f"{name}:{node.lineno}")

    def test_python_own_as_they_are_called(self):
        for name, tree in trees().items():
            for node, parent in with_parents(tree):
                if isinstance(node, ast.Call) and node.keywords:
                    known = KEYWORDS.get(called(node), ())
                    self.assertEqual([word.arg for word in node.keywords if word.arg not in known], [], name)
                if called(node) == "isinstance":
                    self.assertIn(getattr(node.args[1], "id", None), ASKED_KINDS, name)
                elif isinstance(node, ast.Name) and node.id in BUILT_IN and called(parent) != node.id:
                    allowed = called(parent) == "isinstance" or isinstance(parent, ast.ClassDef)
                    self.assertTrue(allowed, f"{name}:{node.lineno} {node.id}")

    def test_lists_and_dicts_at_the_top_are_only_read(self):
        for name, tree in trees().items():
            tops = [node for node in tree.body if isinstance(node, ast.Assign)]
            held = [node.targets[0].id for node in tops if isinstance(node.value, (ast.List, ast.Dict))]
            for top in tops:
                within = [node for node in ast.walk(top.value) if node is not top.value]
                self.assertFalse(any(isinstance(node, (ast.List, ast.Dict, ast.Call)) for node in within), name)
            for node, parent in with_parents(tree):
                if isinstance(node, ast.Name) and node.id in held and isinstance(node.ctx, ast.Load):
                    read = isinstance(parent, ast.Subscript) and isinstance(parent.ctx, ast.Load)
                    asked = isinstance(parent, ast.Compare) and node in parent.comparators
                    self.assertTrue(read or asked, f"{name}:{node.lineno}")

    def test_classes(self):
        methods = []
        values = []
        for name, tree in trees().items():
            for node in ast.walk(tree):
                if isinstance(node, ast.ClassDef):
                    self.assertIn(node, tree.body, name)
                    own = [part.name for part in node.body if isinstance(part, ast.FunctionDef)]
                    self.assertEqual(sorted(own), sorted(set(own)), name)
                    self.assertEqual([word for word in own if word in DUNDERS and word != "__init__"], [], name)
                    methods.extend(own)
                if isinstance(node, ast.Attribute) and isinstance(node.ctx, ast.Store):
                    self.assertEqual(node.value.id, "self", name)
                    values.append(node.attr)
        python_own = [word for kind in (str, int, list, dict, set, tuple, bytes, ValueError) for word in dir(kind)]
        self.assertEqual([word for word in methods if word in values], [])
        self.assertEqual([word for word in methods + values if word in python_own and word != "__init__"], [])

    def test_errors_are_made_on_the_spot(self):
        own = bound_at_top(trees()["errors.py"])
        for name, tree in trees().items():
            for node in ast.walk(tree):
                if isinstance(node, ast.Raise):
                    self.assertIn(called(node.exc), own, name)
                    self.assertIsNone(node.cause, name)
                self.assertNotIsInstance(node, ast.Try, name)

    def test_numbers_and_texts(self):
        for name, tree in trees().items():
            for node in ast.walk(tree):
                self.assertNotIsInstance(node, ast.Pow, name)
        for name, text in sources().items():
            self.assertNotIn("\\", text, name)


if __name__ == "__main__":
    unittest.main()
