"""The form of the package's own files: what LANGUAGE.md says that can be seen in the files alone.

Each test names the rules that it looks at. Rules that need a reader's eye are not looked at here.
"""

import ast
import builtins
import pathlib
import re
import unittest

PACKAGE = pathlib.Path(__file__).resolve().parent.parent / "rulehall"
FILES = sorted(path for path in PACKAGE.rglob("*") if path.is_file() and path.parent.name != "__pycache__")
TREES = {path.stem: ast.parse(path.read_text()) for path in FILES if path.suffix == ".py"}

STATEMENTS = (
    ast.Assign, ast.AugAssign, ast.If, ast.While, ast.For, ast.Return, ast.Break, ast.Continue, ast.Pass, ast.Raise,
    ast.Try, ast.Expr, ast.FunctionDef, ast.ClassDef, ast.ImportFrom,
)
EXPRESSIONS = (
    ast.Constant, ast.List, ast.Tuple, ast.Dict, ast.Set, ast.BinOp, ast.UnaryOp, ast.BoolOp, ast.Compare, ast.IfExp,
    ast.Call, ast.Attribute, ast.Subscript, ast.Slice, ast.ListComp, ast.JoinedStr, ast.FormattedValue, ast.Name,
    ast.Lambda,
)
OWN_NAMES = set(
    "len range enumerate zip min max sum abs sorted reversed int str bool list tuple dict set frozenset isinstance ord "
    "repr any all divmod Exception ValueError TypeError KeyError IndexError LookupError ZeroDivisionError "
    "ArithmeticError OverflowError RuntimeError NotImplementedError AttributeError StopIteration".split()
)
METHODS = set(
    "append clear copy count endswith extend find get index insert isalnum isalpha isdigit islower isspace isupper "
    "items join keys ljust lower lstrip partition pop remove replace reverse rfind rjust rpartition rsplit rstrip "
    "setdefault split splitlines startswith strip update upper values zfill bit_length".split()
)
SPECIAL = {"__init__", "__eq__", "__repr__", "__str__", "__len__"}
BANNED_WORDS = (
    r"\b(?:type|typing|typing_extensions|enum|Enum|IntEnum|StrEnum|Flag|IntFlag|Generic|Protocol|ABC|ABCMeta"
    r"|namedtuple|NamedTuple|TypedDict|TYPE_CHECKING|abstractmethod)\b|dataclass|overload|contextmanager"
)
WALKED = {"zip", "enumerate", "reversed", "range", "items", "keys", "values"}
WALKERS = {"list", "tuple", "dict", "sorted", "sum", "any", "all", "enumerate", "zip", "min", "max", "join"}


def nodes(*kinds):
    return [(name, node) for name, tree in TREES.items() for node in ast.walk(tree) if isinstance(node, kinds)]


def called_name(call):
    return call.func.id if isinstance(call.func, ast.Name) else getattr(call.func, "attr", "")


def own_defs():
    return {node.name for name, node in nodes(ast.FunctionDef, ast.ClassDef)}


def bound_names():
    found = [node.name for name, node in nodes(ast.FunctionDef, ast.ClassDef)]
    found += [node.arg for name, node in nodes(ast.arg)]
    found += [node.id for name, node in nodes(ast.Name) if isinstance(node.ctx, ast.Store)]
    found += [node.attr for name, node in nodes(ast.Attribute) if isinstance(node.ctx, ast.Store)]
    found += [node.name for name, node in nodes(ast.ExceptHandler) if node.name]
    return found


class Form(unittest.TestCase):
    def test_files(self):
        """L1, L14"""
        self.assertIn("__init__", TREES)
        for path in FILES:
            self.assertRegex(path.name, r"\A(?:__init__|__main__|[a-z][a-z0-9_]*)\.py\Z")
            self.assertNotIn(path.stem, dir(builtins))

    def test_signs_and_sizes(self):
        """L10, L14, L17"""
        for path in FILES:
            text = path.read_bytes().decode("ascii")
            self.assertRegex(text, r"\A[ -~\n]*\Z", path.name)
            self.assertLessEqual(len(text.splitlines()), 400, path.name)
            self.assertLessEqual(max(len(row) for row in text.split("\n")), 120, path.name)
            self.assertIsNone(re.search(BANNED_WORDS, text), path.name)
        for name, node in nodes(ast.FunctionDef):
            self.assertLessEqual(node.end_lineno - node.lineno + 1, 40, node.name)

    def test_imports(self):
        """L2, L16"""
        drawn = {name: [] for name in TREES}
        for name, node in nodes(ast.ImportFrom):
            self.assertIn(node, TREES[name].body)
            self.assertRegex(node.module, r"\Arulehall\.\w+\Z")
            source = node.module.split(".")[1]
            drawn[name].append(source)
            defined = {part.name for part in TREES[source].body if isinstance(part, (ast.FunctionDef, ast.ClassDef))}
            for part in TREES[source].body:
                if isinstance(part, ast.Assign):
                    defined.add(part.targets[0].id)
            for alias in node.names:
                self.assertIn(alias.name, defined)
                self.assertIsNone(alias.asname)
        for name in drawn:
            reached = list(drawn[name])
            for step in reached:
                reached.extend(other for other in drawn[step] if other not in reached)
            self.assertNotIn(name, reached)
        self.assertEqual(drawn["__init__"], [])

    def test_tops(self):
        """L3, L15"""
        for name, tree in TREES.items():
            self.assertIsNotNone(ast.get_docstring(tree), name)
            allowed = (ast.ImportFrom, ast.FunctionDef, ast.ClassDef, ast.Assign)
            self.assertTrue(all(isinstance(part, allowed) for part in tree.body[1:]), name)
            bound = [part.name for part in tree.body if isinstance(part, (ast.FunctionDef, ast.ClassDef))]
            for part in tree.body:
                if isinstance(part, ast.Assign):
                    bound.append(part.targets[0].id)
                    ast.literal_eval(part.value)
            self.assertEqual(len(set(bound)), len(bound), name)

    def test_functions_and_classes(self):
        """L4, L5, L21, L28"""
        for name, node in nodes(ast.FunctionDef):
            given = node.args
            self.assertFalse(node.decorator_list or given.vararg or given.kwarg or given.kwonlyargs, node.name)
            self.assertFalse(given.posonlyargs or node.returns or any(arg.annotation for arg in given.args), node.name)
        for name, node in nodes(ast.ClassDef):
            self.assertFalse(node.decorator_list or node.keywords or len(node.bases) > 1, node.name)
            self.assertTrue(all(isinstance(part, (ast.FunctionDef, ast.Pass)) for part in node.body), node.name)
            methods = [part.name for part in node.body if isinstance(part, ast.FunctionDef)]
            self.assertEqual(len(set(methods)), len(methods), node.name)

    def test_statements(self):
        """L6"""
        for name, node in nodes(ast.stmt):
            self.assertIsInstance(node, STATEMENTS, f"{name} {node.lineno}")
        for name, node in nodes(ast.Assign):
            self.assertEqual(len(node.targets), 1)
        for name, node in nodes(ast.For, ast.While):
            self.assertFalse(node.orelse)
        for name, node in nodes(ast.Try):
            self.assertFalse(node.finalbody)
        for name, node in nodes(ast.Expr):
            docstring = isinstance(node.value, ast.Constant) and node is TREES[name].body[0]
            self.assertTrue(docstring or isinstance(node.value, ast.Call), f"{name} {node.lineno}")

    def test_expressions(self):
        """L7, L20, L27"""
        for name, node in nodes(ast.expr):
            self.assertIsInstance(node, EXPRESSIONS, f"{name} {node.lineno}")
        for name, node in nodes(ast.Constant):
            self.assertTrue(node.value is None or isinstance(node.value, (int, str)))
            self.assertFalse(isinstance(node.value, str) and "%" in node.value)
        for name, node in nodes(ast.BinOp, ast.AugAssign):
            self.assertNotIsInstance(node.op, (ast.Div, ast.MatMult))
        for name, node in nodes(ast.ListComp):
            self.assertEqual(len(node.generators), 1)
            self.assertLessEqual(len(node.generators[0].ifs), 1)
        for name, node in nodes(ast.FormattedValue):
            self.assertIsInstance(node.value, ast.Name)
            self.assertIsNone(node.format_spec)
        for name, node in nodes(ast.Compare):
            for step, other in zip(node.ops, node.comparators):
                if isinstance(step, (ast.Is, ast.IsNot)):
                    self.assertIn(getattr(other, "value", 0), (None, True, False))

    def test_names(self):
        """L8, L12, L15, L17, L26"""
        for bound in bound_names():
            self.assertTrue(bound in SPECIAL or re.fullmatch(r"[A-Za-z][A-Za-z0-9_]*", bound), bound)
            self.assertNotIn(bound, dir(builtins))
        for name, node in nodes(ast.Name):
            self.assertTrue(node.id not in dir(builtins) or node.id in OWN_NAMES, f"{name} {node.id}")

    def test_names_of_imports_and_classes(self):
        """L15: no parameter and no local is called like a class or an import of its file"""
        for name, tree in TREES.items():
            outer = {part.name for part in tree.body if isinstance(part, ast.ClassDef)}
            for part in tree.body:
                if isinstance(part, ast.ImportFrom):
                    outer |= {alias.name for alias in part.names}
            inner = {node.arg for node in ast.walk(tree) if isinstance(node, ast.arg)}
            for node in ast.walk(tree):
                if isinstance(node, ast.Name) and isinstance(node.ctx, ast.Store):
                    inner.add(node.id)
            self.assertEqual(outer & inner, set(), name)

    def test_names_of_methods_and_values(self):
        """L18, L26: no name is a method and a value"""
        parts = [part for name, node in nodes(ast.ClassDef) for part in node.body]
        methods = {part.name for part in parts if isinstance(part, ast.FunctionDef)}
        stored = {node.attr for name, node in nodes(ast.Attribute) if isinstance(node.ctx, ast.Store)}
        self.assertEqual(methods & stored, set())
        python_names = {called for kind in (str, int, list, dict, set, bytes) for called in dir(kind)}
        self.assertEqual(stored & python_names, set())
        self.assertLessEqual(methods & python_names, METHODS | SPECIAL | {"add", "discard"})

    def test_python_names_are_called(self):
        """L18, L22: they are not kept or handed on, but by isinstance, as a base, and as a key"""
        free = set()
        for name, node in nodes(ast.Call):
            free.add(node.func)
            free |= {word.value for word in node.keywords if word.arg == "key"}
            if called_name(node) == "isinstance":
                free |= set(ast.walk(node.args[1]))
        for name, node in nodes(ast.ClassDef):
            free |= set(node.bases)
        for name, node in nodes(ast.ExceptHandler):
            free |= set(ast.walk(node.type))
        for name, node in nodes(ast.Name):
            self.assertTrue(node.id not in OWN_NAMES or node in free, f"{name} {node.lineno}")

    def test_sets(self):
        """L24: a set stands beside in, == or !=, or straight within sorted or len"""
        free = set()
        for name, node in nodes(ast.Call):
            if called_name(node) in ("sorted", "len") and not node.keywords:
                free |= set(ast.walk(node))
        for name, node in nodes(ast.Compare):
            free |= {node.left} | set(node.comparators)
        for name, node in nodes(ast.Call):
            self.assertTrue(called_name(node) not in ("set", "frozenset") or node in free, f"{name} {node.lineno}")

    def test_what_a_loop_walks_stays(self):
        """L23: nothing is stored in a walked name, and no method that changes is called on it"""
        changing = {"append", "clear", "extend", "insert", "pop", "remove", "reverse", "setdefault", "update", "add"}
        for name, loop in nodes(ast.For):
            walked = {node.id for node in ast.walk(loop.iter) if isinstance(node, ast.Name)}
            for node in [inner for part in loop.body for inner in ast.walk(part)]:
                held = None
                if isinstance(node, ast.Call) and called_name(node) in changing:
                    held = getattr(node.func, "value", None)
                if isinstance(node, ast.Subscript) and isinstance(node.ctx, ast.Store):
                    held = node.value
                self.assertNotIn(getattr(held, "id", None), walked - {"self"}, f"{name} {loop.lineno}")

    def test_methods(self):
        """L22, L25"""
        for name, node in nodes(ast.Call):
            if isinstance(node.func, ast.Attribute):
                self.assertIn(node.func.attr, METHODS | own_defs() | SPECIAL, f"{name} {node.lineno}")
            if called_name(node) not in own_defs():
                keywords = {word.arg for word in node.keywords}
                self.assertLessEqual(keywords, {"key", "reverse", "default", "start", "strict"})

    def test_walked_at_once(self):
        """L23"""
        walked = []
        for name, node in nodes(ast.For, ast.comprehension):
            walked.append(node.iter)
        for name, node in nodes(ast.Call):
            if called_name(node) in WALKERS:
                walked.extend(node.args)
        for name, node in nodes(ast.Call):
            if called_name(node) in WALKED:
                self.assertIn(node, walked, f"{name} {node.lineno}")

    def test_errors(self):
        """L19"""
        for name, node in nodes(ast.ExceptHandler):
            self.assertIsInstance(node.type, (ast.Name, ast.Tuple))
            caught = node.type.elts if isinstance(node.type, ast.Tuple) else [node.type]
            self.assertFalse({part.id for part in caught} & {"Exception", "TypeError"})
        for name, node in nodes(ast.Raise):
            self.assertIsInstance(node.exc, ast.Call)


if __name__ == "__main__":
    unittest.main()
