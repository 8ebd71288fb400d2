"""The package keeps to its small part of Python (L1 to L28, as far as a look at the code can tell)."""

import ast
import builtins
import os
import re
import unittest

PACKAGE = os.path.join(os.path.dirname(os.path.dirname(os.path.abspath(__file__))), "reelcut")

STATEMENTS = (
    ast.Assign, ast.AugAssign, ast.If, ast.While, ast.For, ast.Return, ast.Break, ast.Continue, ast.Pass, ast.Raise,
    ast.Try, ast.Expr, ast.FunctionDef,
)
EXPRESSIONS = (
    ast.Constant, ast.List, ast.Tuple, ast.Dict, ast.Set, ast.BinOp, ast.UnaryOp, ast.BoolOp, ast.Compare, ast.IfExp,
    ast.Call, ast.Attribute, ast.Subscript, ast.Slice, ast.ListComp, ast.JoinedStr, ast.FormattedValue, ast.Lambda,
    ast.Name,
)
BUILTINS = (
    "len range enumerate zip min max sum abs sorted reversed int str bool list tuple dict set frozenset isinstance "
    "ord repr any all divmod Exception ValueError TypeError KeyError IndexError LookupError ZeroDivisionError "
    "ArithmeticError OverflowError RuntimeError NotImplementedError AttributeError StopIteration"
).split()
METHODS = (
    "append clear copy count endswith extend find get index insert isalnum isalpha isdigit islower isspace isupper "
    "items join keys ljust lower lstrip partition pop remove replace reverse rfind rjust rpartition rsplit rstrip "
    "setdefault split splitlines startswith strip update upper values zfill bit_length"
).split()
NEVER_VALUES = (
    "items keys values pop update append clear extend insert remove reverse setdefault sort args encode format"
).split()
WALKS = ("zip", "enumerate", "reversed", "range", "items", "keys", "values")
WALKERS = ("list", "tuple", "dict", "sorted", "sum", "any", "all", "enumerate", "zip", "min", "max", "join")
DUNDERS = ("__init__", "__eq__", "__repr__", "__str__", "__len__")
NEVER_NAMES = (
    "register mro elements open input version_info with_traceback add_note attrgetter breakpoint builtins compile "
    "copyright credits delattr dir eval exec exit gc getattr globals hasattr help id importlib license locals "
    "methodcaller os quit setattr super type vars sys format format_map"
).split()
NEVER_WORDS = (
    "type typing typing_extensions enum Enum IntEnum StrEnum Flag IntFlag Generic Protocol ABC ABCMeta namedtuple "
    "NamedTuple TypedDict TYPE_CHECKING abstractmethod"
).split()
NEVER_WITHIN = ("dataclass", "overload", "contextmanager")
PYTHONS_OWN_KINDS = (str, int, list, dict, set, bytes, tuple)


def sources():
    found = {}
    for name in sorted(os.listdir(PACKAGE)):
        if name != "__pycache__":
            with open(os.path.join(PACKAGE, name), encoding="utf-8", newline="") as file:
                found[name] = file.read()
    return found


def trees():
    return {name: ast.parse(text) for name, text in sources().items()}


def own_methods():
    found = set()
    for tree in trees().values():
        for node in ast.walk(tree):
            if isinstance(node, ast.ClassDef):
                found.update(one.name for one in node.body if isinstance(one, ast.FunctionDef))
    return found


def own_classes():
    return {node.name for tree in trees().values() for node in tree.body if isinstance(node, ast.ClassDef)}


def name_of_call(node):
    """The name by which a function or method is called, or None of what is no call."""
    if not isinstance(node, ast.Call):
        return None
    return node.func.attr if isinstance(node.func, ast.Attribute) else getattr(node.func, "id", None)


def with_parents(tree):
    return [(node, parent) for parent in ast.walk(tree) for node in ast.iter_child_nodes(parent)]


def is_docstring(node):
    return isinstance(node, ast.Expr) and isinstance(node.value, ast.Constant) and isinstance(node.value.value, str)


class TestLanguage(unittest.TestCase):
    def fail_at(self, name, node, rule):
        self.fail(f"{name}, row {node.lineno}: {rule}: {ast.unparse(node)}")

    def nodes(self):
        for name, tree in trees().items():
            for node in ast.walk(tree):
                yield name, node

    def test_files(self):
        self.assertIn("__init__.py", sources())
        for name in sources():
            with self.subTest(name=name):
                self.assertRegex(name, r"\A([a-z][a-z0-9_]*|__init__|__main__)\.py\Z", "L1, L14")

    def test_signs_and_sizes(self):
        for name, text in sources().items():
            with self.subTest(name=name):
                self.assertRegex(text, r"\A[ -~\n]*\Z", "L14")
                rows = text.splitlines()
                self.assertLessEqual(len(rows), 400, "L10")
                self.assertLessEqual(max([len(row) for row in rows], default=0), 120, "L10")

    def test_words(self):
        for name, text in sources().items():
            for word in NEVER_WORDS:
                self.assertIsNone(re.search(rf"\b{word}\b", text), f"{name}: L17: {word}")
            for word in NEVER_WITHIN:
                self.assertNotIn(word, text, f"{name}: L17")

    def test_the_top_of_a_file(self):
        for name, tree in trees().items():
            bound = []
            for place, node in enumerate(tree.body):
                if place == 0 and is_docstring(node):
                    continue
                if isinstance(node, ast.ImportFrom):
                    bound.extend(one.name for one in node.names)
                elif isinstance(node, (ast.FunctionDef, ast.ClassDef)):
                    bound.append(node.name)
                elif isinstance(node, ast.Assign) and isinstance(node.targets[0], ast.Name):
                    bound.append(node.targets[0].id)
                    kinds = (ast.Constant, ast.Name, ast.List, ast.Tuple, ast.Dict, ast.UnaryOp, ast.USub, ast.expr_context)
                    if not all(isinstance(one, kinds) for one in ast.walk(node.value)):
                        self.fail_at(name, node, "L3")
                elif name != "__main__.py":
                    self.fail_at(name, node, "L3")
            self.assertEqual(len(bound), len(set(bound)), f"{name}: L15")

    def test_imports(self):
        tops = {name[:-3]: [getattr(one, "name", None) for one in tree.body] for name, tree in trees().items()}
        for name, tree in trees().items():
            for node in ast.walk(tree):
                if isinstance(node, ast.Import):
                    self.assertEqual((name, ast.unparse(node)), ("__main__.py", "import sys"), "L16")
                if isinstance(node, ast.ImportFrom):
                    module = node.module or ""
                    if node.level or not module.startswith("reelcut.") or module == "reelcut.__main__":
                        self.fail_at(name, node, "L2")
                    for one in node.names:
                        values = [ast.unparse(row.targets[0]) for row in trees()[module[8:] + ".py"].body
                                  if isinstance(row, ast.Assign)]
                        self.assertIn(one.name, tops[module[8:]] + values, f"{name}: L16")
                        self.assertIsNone(one.asname, f"{name}: L16")

    def test_no_two_files_draw_from_one_another(self):
        draws = {name[:-3]: [node.module[8:] for node in tree.body if isinstance(node, ast.ImportFrom)]
                 for name, tree in trees().items()}
        while draws:
            free = [name for name, others in draws.items() if not set(others) & set(draws)]
            self.assertTrue(free, f"L16: {sorted(draws)}")
            draws = {name: others for name, others in draws.items() if name not in free}

    def test_statements_and_expressions(self):
        for name, tree in trees().items():
            docstrings = [node for node in tree.body[:1] if is_docstring(node)]
            for node in ast.walk(tree):
                if isinstance(node, (ast.ClassDef, ast.ImportFrom)) or node in docstrings:
                    continue
                if isinstance(node, ast.stmt) and not isinstance(node, STATEMENTS):
                    if name != "__main__.py" or not isinstance(node, ast.Import):
                        self.fail_at(name, node, "L6")
                if isinstance(node, ast.expr) and not isinstance(node, EXPRESSIONS):
                    self.fail_at(name, node, "L7")
                if isinstance(node, ast.Expr) and not isinstance(node.value, ast.Call):
                    self.fail_at(name, node, "L6")

    def test_forms_of_statements(self):
        for name, node in self.nodes():
            if isinstance(node, ast.Assign) and len(node.targets) != 1:
                self.fail_at(name, node, "L6")
            if isinstance(node, (ast.For, ast.While)) and node.orelse:
                self.fail_at(name, node, "L6")
            if isinstance(node, ast.Try):
                if node.finalbody or any(one.type is None for one in node.handlers):
                    self.fail_at(name, node, "L6")
                if any(ast.unparse(one.type) in ("Exception", "TypeError") for one in node.handlers):
                    self.fail_at(name, node, "L19")
            if isinstance(node, ast.Raise) and not isinstance(node.exc, ast.Call):
                self.fail_at(name, node, "L19")

    def test_forms_of_expressions(self):
        for name, node in self.nodes():
            if isinstance(node, ast.Constant) and not isinstance(node.value, (int, str, type(None))):
                self.fail_at(name, node, "L7")
            if isinstance(node, ast.Constant) and isinstance(node.value, str) and "%" in node.value:
                self.fail_at(name, node, "L27")
            if isinstance(node, ast.BinOp) and isinstance(node.op, (ast.Div, ast.MatMult)):
                self.fail_at(name, node, "L7")
            if isinstance(node, ast.BinOp) and isinstance(node.op, ast.Pow):
                if not isinstance(node.right, ast.Constant) or node.right.value > 64:
                    self.fail_at(name, node, "L27")
            if isinstance(node, ast.ListComp):
                if len(node.generators) != 1 or len(node.generators[0].ifs) > 1:
                    self.fail_at(name, node, "L7")
            if isinstance(node, ast.FormattedValue):
                if not isinstance(node.value, ast.Name) or node.format_spec or node.conversion not in (-1, ord("r")):
                    self.fail_at(name, node, "L7")
            if isinstance(node, ast.Compare) and any(isinstance(op, (ast.Is, ast.IsNot)) for op in node.ops):
                sides = [node.left] + node.comparators
                if not any(isinstance(one, ast.Constant) and one.value in (None, True, False) for one in sides):
                    self.fail_at(name, node, "L20")

    def test_functions(self):
        for name, node in self.nodes():
            if isinstance(node, (ast.FunctionDef, ast.Lambda)):
                held = node.args
                if held.vararg or held.kwarg or held.kwonlyargs or held.posonlyargs:
                    self.fail_at(name, node, "L4")
            if isinstance(node, ast.FunctionDef):
                if node.decorator_list:
                    self.fail_at(name, node, "L4")
                if node.end_lineno - node.lineno + 1 > 40:
                    self.fail_at(name, node, "L10")

    def test_classes(self):
        for name, node in self.nodes():
            if isinstance(node, ast.ClassDef):
                if node.decorator_list or node.keywords or len(node.bases) > 1:
                    self.fail_at(name, node, "L5")
                if not all(isinstance(one, (ast.FunctionDef, ast.Pass)) for one in node.body):
                    self.fail_at(name, node, "L5")
                methods = [one.name for one in node.body if isinstance(one, ast.FunctionDef)]
                self.assertEqual(len(methods), len(set(methods)), f"{name}: L18")

    def test_names(self):
        for name, node in self.nodes():
            if isinstance(node, ast.Name):
                self.check_name(name, node, node.id)
                if isinstance(node.ctx, ast.Load) and hasattr(builtins, node.id) and node.id not in BUILTINS:
                    if not (name == "__main__.py" and node.id in ("print", "__name__")):
                        self.fail_at(name, node, "L8")
                if isinstance(node.ctx, ast.Store) and hasattr(builtins, node.id):
                    self.fail_at(name, node, "L15")
            if isinstance(node, (ast.FunctionDef, ast.ClassDef)):
                self.check_name(name, node, node.name)
            if isinstance(node, ast.arg) and (hasattr(builtins, node.arg) or node.arg.startswith("_")):
                self.fail_at(name, node, "L15")

    def check_name(self, name, node, word):
        if word in NEVER_NAMES and not (name == "__main__.py" and word == "sys"):
            self.fail_at(name, node, "L17")
        if word.startswith("_") and word not in DUNDERS + ("__all__", "__version__"):
            if not (name == "__main__.py" and word == "__name__"):
                self.fail_at(name, node, "L12")

    def test_locals_are_not_called_like_imports_or_classes(self):
        for name, tree in trees().items():
            taken = {one.name for node in tree.body if isinstance(node, ast.ImportFrom) for one in node.names}
            taken |= {node.name for node in tree.body if isinstance(node, ast.ClassDef)}
            for node in ast.walk(tree):
                word = node.arg if isinstance(node, ast.arg) else None
                if isinstance(node, ast.Name) and isinstance(node.ctx, ast.Store):
                    word = node.id
                if word in taken:
                    self.fail_at(name, node, "L15")

    def test_attributes(self):
        free = own_methods()
        for name, node in self.nodes():
            if isinstance(node, ast.Attribute):
                if node.attr in NEVER_NAMES or (node.attr.startswith("_") and node.attr not in DUNDERS):
                    self.fail_at(name, node, "L12, L17")
                is_pythons = any(hasattr(kind, node.attr) for kind in PYTHONS_OWN_KINDS)
                if is_pythons and node.attr not in METHODS and node.attr not in free:
                    self.fail_at(name, node, "L25")

    def test_lists_and_dicts_at_the_top_hold_none(self):
        for name, tree in trees().items():
            for node in tree.body:
                if isinstance(node, ast.Assign):
                    held = [one for one in ast.walk(node.value) if isinstance(one, (ast.List, ast.Dict)) and one != node.value]
                    self.assertEqual(held, [], f"{name}, row {node.lineno}: L15")

    def test_classes_are_not_handed_on(self):
        classes = own_classes()
        for name, tree in trees().items():
            for node, parent in with_parents(tree):
                if isinstance(node, ast.Name) and node.id in classes:
                    called = isinstance(parent, ast.Call) and (parent.func == node or name_of_call(parent) == "isinstance")
                    taken = isinstance(parent, (ast.ClassDef, ast.ExceptHandler, ast.Raise, ast.Attribute))
                    of_several = isinstance(parent, ast.Tuple)
                    if not called and not taken and not of_several:
                        self.fail_at(name, node, "L18")

    def test_walked_at_once(self):
        for name, tree in trees().items():
            for node, parent in with_parents(tree):
                if name_of_call(node) in WALKS:
                    looped = isinstance(parent, (ast.For, ast.comprehension)) and parent.iter == node
                    if not looped and name_of_call(parent) not in WALKERS:
                        self.fail_at(name, node, "L23")

    def test_values_of_objects(self):
        for name, node in self.nodes():
            if isinstance(node, ast.Attribute) and isinstance(node.ctx, ast.Store):
                self.assertNotIn(node.attr, own_methods(), f"{name}: L18")
                self.assertNotIn(node.attr, NEVER_VALUES, f"{name}: L26")


if __name__ == "__main__":
    unittest.main()
