"""The package's files keep to the part of Python that is told for it, as far as a look at the code can see."""

import ast
import pathlib
import re
import unittest

PACKAGE = pathlib.Path(__file__).resolve().parent.parent / "worstways"
WORDS = (
    "type typing typing_extensions enum Enum IntEnum StrEnum Flag IntFlag Generic Protocol ABC ABCMeta namedtuple "
    "NamedTuple TypedDict TYPE_CHECKING abstractmethod"
).split()
OWN_NAMES = (
    "len range enumerate zip min max sum abs sorted reversed int str bool list tuple dict set frozenset isinstance "
    "ord repr any all divmod Exception ValueError TypeError KeyError IndexError LookupError ZeroDivisionError "
    "ArithmeticError OverflowError RuntimeError NotImplementedError AttributeError StopIteration"
).split()
METHODS = (
    "append clear copy count endswith extend find get index insert isalnum isalpha isdigit islower isspace isupper "
    "items join keys ljust lower lstrip partition pop remove replace reverse rfind rjust rpartition rsplit rstrip "
    "setdefault split splitlines startswith strip update upper values zfill bit_length"
).split()
NODES = (
    "Module Expr Constant ImportFrom alias FunctionDef arguments arg ClassDef Return Assign AugAssign For While If "
    "Raise Try ExceptHandler Break Continue Pass BoolOp And Or BinOp Add Sub Mult FloorDiv Mod Pow UnaryOp Not USub "
    "Lambda IfExp Dict ListComp comprehension Compare Eq NotEq Lt LtE Gt GtE Is IsNot In NotIn Call keyword "
    "JoinedStr FormattedValue Attribute Subscript Slice Name Load Store List Tuple"
).split()
WALKED = "zip enumerate reversed range".split()
WALKING = "list tuple dict sorted sum any all enumerate zip".split()
BUILTINS = set(dir(__builtins__) if not isinstance(__builtins__, dict) else __builtins__)


def files():
    return sorted(path for path in PACKAGE.rglob("*") if "__pycache__" not in path.parts)


def each_file():
    for path in files():
        text = path.read_text(encoding="utf-8")
        yield path, text, ast.parse(text)


def bound_names(tree):
    for node in ast.walk(tree):
        if isinstance(node, ast.Name) and isinstance(node.ctx, ast.Store):
            yield node.id
        elif isinstance(node, ast.arg):
            yield node.arg
        elif isinstance(node, (ast.FunctionDef, ast.ClassDef)):
            yield node.name


class Language(unittest.TestCase):
    def test_files(self):
        self.assertIn("__init__.py", [path.name for path in files()])
        for path in files():
            self.assertRegex(path.name, r"^[a-z0-9_]+\.py$")

    def test_size_and_signs(self):
        for path, text, tree in each_file():
            self.assertLessEqual(len(text.splitlines()), 400)
            self.assertLessEqual(max(len(line) for line in text.splitlines()), 120)
            self.assertRegex(text, r"^[ -~\n]*$")
            for node in ast.walk(tree):
                if isinstance(node, ast.FunctionDef):
                    self.assertLessEqual(node.end_lineno - node.lineno + 1, 40, node.name)

    def test_words(self):
        for path, text, tree in each_file():
            self.assertEqual(set(re.findall(r"\w+", text)) & set(WORDS), set(), path.name)

    def test_forms(self):
        for path, text, tree in each_file():
            for node in ast.walk(tree):
                self.assertIn(node.__class__.__name__, NODES, getattr(node, "lineno", 0))
                if isinstance(node, ast.Assign):
                    self.assertEqual(len(node.targets), 1)
                if isinstance(node, (ast.For, ast.While)):
                    self.assertEqual(node.orelse, [])
                if isinstance(node, ast.ListComp):
                    self.assertEqual(len(node.generators), 1)
                    self.assertLessEqual(len(node.generators[0].ifs), 1)
                if isinstance(node, ast.FunctionDef):
                    self.assertEqual(node.decorator_list, [])

    def test_names(self):
        for path, text, tree in each_file():
            for name in bound_names(tree):
                self.assertRegex(name, r"^([a-zA-Z][a-zA-Z0-9_]*|__init__)$")
                self.assertNotIn(name, BUILTINS)
            for node in ast.walk(tree):
                if isinstance(node, ast.Name) and node.id in BUILTINS:
                    self.assertIn(node.id, OWN_NAMES, node.lineno)

    def test_imports(self):
        for path, text, tree in each_file():
            for node in ast.walk(tree):
                if isinstance(node, ast.ImportFrom):
                    self.assertEqual(node.level, 0)
                    self.assertRegex(node.module, r"^worstways\.[a-z0-9_]+$")
                    defining = ast.parse((PACKAGE / (node.module.split(".")[1] + ".py")).read_text())
                    tops = set(bound_names(ast.Module(defining.body, [])))
                    for alias in node.names:
                        self.assertIn(alias.name, tops)

    def test_no_local_is_called_like_an_import_or_a_class(self):
        for path, text, tree in each_file():
            taken = {node.name for node in tree.body if isinstance(node, ast.ClassDef)}
            for node in tree.body:
                if isinstance(node, ast.ImportFrom):
                    taken |= {alias.name for alias in node.names}
            for node in tree.body:
                if isinstance(node, (ast.FunctionDef, ast.ClassDef)):
                    for part in node.body + ([node.args] if isinstance(node, ast.FunctionDef) else []):
                        self.assertEqual(set(bound_names(part)) & taken, set(), path.name)

    def test_no_two_files_draw_from_one_another(self):
        drawn = {}
        for path, text, tree in each_file():
            drawn[path.stem] = {
                node.module.split(".")[1] for node in ast.walk(tree) if isinstance(node, ast.ImportFrom)
            }
        while drawn:
            free = [name for name, others in drawn.items() if not others & set(drawn)]
            self.assertNotEqual(free, [], drawn)
            for name in free:
                del drawn[name]

    def test_walked_at_once(self):
        for path, text, tree in each_file():
            walked = []
            for node in ast.walk(tree):
                if isinstance(node, (ast.For, ast.comprehension)):
                    walked.append(node.iter)
                if isinstance(node, ast.Call) and isinstance(node.func, ast.Name) and node.func.id in WALKING:
                    walked += node.args[:1]
            for node in ast.walk(tree):
                if isinstance(node, ast.Call) and isinstance(node.func, ast.Name) and node.func.id in WALKED:
                    self.assertIn(node, walked, node.lineno)

    def test_the_top_of_a_file(self):
        for path, text, tree in each_file():
            names = []
            for node in tree.body:
                if isinstance(node, ast.Assign):
                    ast.literal_eval(node.value)
                    names.append(node.targets[0].id)
                elif isinstance(node, (ast.FunctionDef, ast.ClassDef)):
                    names.append(node.name)
                elif isinstance(node, ast.ImportFrom):
                    names += [alias.name for alias in node.names]
                else:
                    self.assertIsInstance(node.value.value, str)
            self.assertEqual(len(names), len(set(names)), path.name)

    def test_methods(self):
        own = set()
        for path, text, tree in each_file():
            for node in ast.walk(tree):
                if isinstance(node, ast.ClassDef):
                    own |= {part.name for part in node.body if isinstance(part, ast.FunctionDef)}
        for path, text, tree in each_file():
            for node in ast.walk(tree):
                if isinstance(node, ast.Call) and isinstance(node.func, ast.Attribute):
                    self.assertIn(node.func.attr, [*METHODS, *own], node.lineno)
