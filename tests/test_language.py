"""The part of Python that the package keeps to, as far as it can be seen rule by rule in its files."""

import ast
import builtins
import pathlib
import re
import unittest

PACKAGE = pathlib.Path(__file__).resolve().parent.parent / "notchplan"
FILES = sorted(PACKAGE.glob("*.py"))

OWN_NAMES = set(
    "len range enumerate zip min max sum abs sorted reversed int str bool list tuple dict set frozenset isinstance ord "
    "repr any all divmod Exception ValueError TypeError KeyError IndexError LookupError ZeroDivisionError "
    "ArithmeticError OverflowError RuntimeError NotImplementedError AttributeError StopIteration".split())
OWN_METHODS = set(
    "append clear copy count endswith extend find get index insert isalnum isalpha isdigit islower isspace isupper "
    "items join keys ljust lower lstrip partition pop remove replace reverse rfind rjust rpartition rsplit rstrip "
    "setdefault split splitlines startswith strip update upper values zfill bit_length __init__".split())
NEVER_VALUES = set("items keys values pop update append clear extend insert remove reverse setdefault sort args encode "
                   "format format_map".split())
NEVER_NAMES = set(
    "register mro elements open input version_info with_traceback add_note attrgetter breakpoint builtins compile "
    "copyright credits delattr dir eval exec exit gc getattr globals hasattr help id importlib license locals "
    "methodcaller os quit setattr super type vars sys".split())
NEVER_WORDS = re.compile(
    r"\b(type|typing|typing_extensions|enum|Enum|IntEnum|StrEnum|Flag|IntFlag|Generic|Protocol|ABC|ABCMeta|namedtuple|"
    r"NamedTuple|TypedDict|TYPE_CHECKING|abstractmethod)\b|dataclass|overload|contextmanager")
NEVER_NODES = (
    ast.With, ast.Match, ast.Delete, ast.Global, ast.Nonlocal, ast.Assert, ast.Yield, ast.YieldFrom, ast.AsyncFor,
    ast.AsyncFunctionDef, ast.AsyncWith, ast.Await, ast.Import, ast.SetComp, ast.DictComp, ast.GeneratorExp,
    ast.NamedExpr, ast.Starred, ast.Div, ast.MatMult)


def tree(path):
    return ast.parse(path.read_text(encoding="utf-8"))


def walk(kind):
    """Each node of the kind in each file, with the file's name."""
    return [(path.name, node) for path in FILES for node in ast.walk(tree(path)) if isinstance(node, kind)]


def own_methods():
    return {part.name for name, node in walk(ast.ClassDef) for part in node.body if isinstance(part, ast.FunctionDef)}


def own_values():
    return {node.attr for name, node in walk(ast.Attribute) if isinstance(node.ctx, ast.Store)}


def top_names(body):
    names = []
    for node in body:
        if isinstance(node, (ast.FunctionDef, ast.ClassDef)):
            names.append(node.name)
        if isinstance(node, ast.ImportFrom):
            names.extend(alias.name for alias in node.names)
        if isinstance(node, ast.Assign):
            names.append(node.targets[0].id)
    return names


class Language(unittest.TestCase):
    def test_files_and_sizes(self):
        self.assertEqual([path.name for path in PACKAGE.iterdir() if path.name != "__pycache__" and path not in FILES],
                         [])
        for path in FILES:
            text = path.read_text(encoding="utf-8")
            self.assertRegex(path.name, r"^([a-z0-9_]+)\.py$")
            self.assertRegex(text, r"\A[ -~\n]*\Z", path.name)
            self.assertLessEqual(text.count("\n"), 399, path.name)
            self.assertLessEqual(max(len(line) for line in text.split("\n")), 120, path.name)
            self.assertIsNone(NEVER_WORDS.search(text), path.name)
        for name, node in walk(ast.FunctionDef):
            self.assertLessEqual(node.end_lineno - node.lineno + 1, 40, (name, node.name))

    def test_statements_and_expressions(self):
        for name, node in walk(NEVER_NODES):
            self.fail((name, node.lineno, ast.dump(node)[:80]))
        for name, node in walk((ast.For, ast.While)):
            self.assertEqual(node.orelse, [], (name, node.lineno))
        for name, node in walk(ast.Try):
            self.assertEqual(node.finalbody, [], (name, node.lineno))
        for name, node in walk(ast.Assign):
            self.assertEqual(len(node.targets), 1, (name, node.lineno))
        for name, node in walk(ast.ListComp):
            self.assertEqual(len(node.generators), 1, (name, node.lineno))
            self.assertLessEqual(len(node.generators[0].ifs), 1, (name, node.lineno))
        for name, node in walk(ast.Compare):
            for operator, side in zip(node.ops, node.comparators):
                if isinstance(operator, (ast.Is, ast.IsNot)):
                    self.assertIn(side.value, (None, True, False), (name, node.lineno))
        for name, node in walk(ast.Constant):
            self.assertIn(type(node.value), (int, str, bool, type(None)), (name, node.lineno))
            self.assertFalse(isinstance(node.value, str) and "%" in node.value, (name, node.lineno))

    def test_functions_and_classes(self):
        for name, node in walk(ast.FunctionDef):
            self.assertEqual(node.decorator_list, [], (name, node.name))
            self.assertFalse(node.args.vararg or node.args.kwarg or node.args.kwonlyargs, (name, node.name))
        for name, node in walk(ast.ClassDef):
            self.assertEqual(node.decorator_list, [], (name, node.name))
            self.assertLessEqual(len(node.bases), 1, (name, node.name))
        self.assertEqual(own_methods() & own_values(), set())

    def test_imports(self):
        drawn = {}
        for path in FILES:
            drawn[path.stem] = []
            body = tree(path).body
            for node in [part for part in ast.walk(tree(path)) if isinstance(part, ast.ImportFrom)]:
                self.assertTrue(node.level == 0 and node.module.startswith("notchplan."), path.name)
                drawn[path.stem].append(node.module.split(".")[1])
            self.assertEqual(len(top_names(body)), len(set(top_names(body))), path.name)
        while drawn:
            ready = [stem for stem in drawn if not set(drawn[stem]) & set(drawn)]
            self.assertTrue(ready, "files draw from one another")
            drawn = {stem: drawn[stem] for stem in drawn if stem not in ready}

    def test_names(self):
        for path in FILES:
            known = set(top_names(tree(path).body))
            bound = [node.id for node in ast.walk(tree(path)) if isinstance(node, ast.Name)
                     and isinstance(node.ctx, ast.Store)]
            bound += [node.arg for node in ast.walk(tree(path)) if isinstance(node, ast.arg)]
            bound += [node.name for node in ast.walk(tree(path)) if isinstance(node, ast.ExceptHandler) and node.name]
            for name in bound + list(known):
                self.assertRegex(name, r"^[A-Za-z][A-Za-z0-9_]*$", path.name)
                self.assertFalse(name in dir(builtins) or name in NEVER_NAMES, (path.name, name))
            for node in ast.walk(tree(path)):
                if isinstance(node, ast.Name) and isinstance(node.ctx, ast.Load):
                    self.assertIn(node.id, known | set(bound) | OWN_NAMES, (path.name, node.lineno))

    def test_methods_and_values(self):
        for name, node in walk(ast.Attribute):
            if isinstance(node.ctx, ast.Store):
                self.assertNotIn(node.attr, NEVER_VALUES | NEVER_NAMES, (name, node.lineno))
            self.assertIn(node.attr, OWN_METHODS | own_methods() | own_values(), (name, node.lineno))

    def test_the_top_of_each_file(self):
        for path in FILES:
            body = tree(path).body
            self.assertIsNotNone(ast.get_docstring(tree(path)), path.name)
            for node in body[1:]:
                self.assertIsInstance(node, (ast.ImportFrom, ast.FunctionDef, ast.ClassDef, ast.Assign), path.name)


if __name__ == "__main__":
    unittest.main()
