"""The form of the program's files: the part of the language that the package keeps to, as far as it's seen here."""

import ast
import pathlib
import re
import unittest

PACKAGE = pathlib.Path(__file__).resolve().parent.parent / "treestream"
FILES = sorted(path for path in PACKAGE.iterdir() if path.name != "__pycache__")
TREES = {path: ast.parse(path.read_text(encoding="ascii")) for path in FILES}

STATEMENTS = (ast.Assign, ast.AugAssign, ast.If, ast.While, ast.For, ast.Return, ast.Break, ast.Continue, ast.Pass,
              ast.Raise, ast.Try, ast.Expr, ast.FunctionDef, ast.ClassDef, ast.ImportFrom)
EXPRESSIONS = (ast.Constant, ast.Name, ast.List, ast.Tuple, ast.Dict, ast.BinOp, ast.UnaryOp, ast.Compare, ast.BoolOp,
               ast.IfExp, ast.Call, ast.Attribute, ast.Subscript, ast.Slice, ast.ListComp, ast.Lambda, ast.JoinedStr,
               ast.FormattedValue)
BUILTINS = set("""len range enumerate zip min max sum abs sorted reversed int str bool list tuple dict set frozenset
    isinstance ord repr any all divmod Exception ValueError TypeError KeyError IndexError LookupError
    ZeroDivisionError ArithmeticError OverflowError RuntimeError NotImplementedError AttributeError
    StopIteration""".split())
METHODS = set("""append clear copy count endswith extend find get index insert isalnum isalpha isdigit islower isspace
    isupper items join keys ljust lower lstrip partition pop remove replace reverse rfind rjust rpartition rsplit
    rstrip setdefault split splitlines startswith strip update upper values zfill bit_length __init__""".split())
WORDS = set("""type typing typing_extensions enum Enum IntEnum StrEnum Flag IntFlag Generic Protocol ABC ABCMeta
    namedtuple NamedTuple TypedDict TYPE_CHECKING abstractmethod""".split())
UNUSED = set("""register mro elements open input version_info with_traceback add_note attrgetter breakpoint builtins
    compile copyright credits delattr dir eval exec exit gc getattr globals hasattr help id importlib license locals
    methodcaller os quit setattr super type vars sys format format_map chr""".split())
PYTHONS_OWN = set(dir(__builtins__) if not isinstance(__builtins__, dict) else __builtins__)
VALUES_NOT_TO_BE = set("""items keys values pop update append clear extend insert remove reverse setdefault sort args
    encode format""".split())
PYTHONS_ATTRIBUTES = {name for kind in (str, int, list, dict, set, bytes, tuple) for name in dir(kind)}
FREE_VALUES = set("count index title find get join lower upper split strip copy add".split())


def everything(kind):
    for path, tree in TREES.items():
        for node in ast.walk(tree):
            if isinstance(node, kind):
                yield path, node


def is_docstring(tree, node):
    return node is tree.body[0] and isinstance(node.value, ast.Constant) and isinstance(node.value.value, str)


def methods():
    return [node for path, kind in everything(ast.ClassDef) for node in kind.body]


def values():
    return [node.attr for path, node in everything(ast.Attribute) if isinstance(node.ctx, ast.Store)]


class TheFiles(unittest.TestCase):
    def test_names_and_signs(self):
        self.assertIn(PACKAGE / "__init__.py", FILES)
        for path in FILES:
            self.assertRegex(path.name, r"\A([a-z][a-z0-9_]*|__init__)\.py\Z")
            self.assertNotIn(path.stem, PYTHONS_OWN | UNUSED | {"test", "tests", "testing", "site", "conftest"})
            self.assertRegex(path.read_bytes().decode("latin-1"), r"\A[ -~\n]*\Z", path)

    def test_sizes(self):
        for path in FILES:
            lines = path.read_text().split("\n")
            self.assertLess(len(lines), 400, path)
            self.assertLessEqual(max(len(line) for line in lines), 120, path)
        for path, node in everything(ast.FunctionDef):
            self.assertLessEqual(node.end_lineno - node.lineno + 1, 40, node.name)

    def test_words_that_stand_nowhere(self):
        for path in FILES:
            text = path.read_text()
            self.assertFalse(WORDS & set(re.findall(r"\w+", text)), path)
            self.assertNotRegex(text, "dataclass|overload|contextmanager")


class TheTop(unittest.TestCase):
    def test_what_stands_there(self):
        for path, tree in TREES.items():
            self.assertTrue(is_docstring(tree, tree.body[0]), path)
            names = []
            for node in tree.body[1:]:
                self.assertIsInstance(node, (ast.ImportFrom, ast.Assign, ast.FunctionDef, ast.ClassDef), path)
                if isinstance(node, ast.Assign):
                    self.assertIsInstance(node.value, ast.Constant, ast.dump(node))
                    names.append(node.targets[0].id)
                elif isinstance(node, ast.ImportFrom):
                    names.extend(alias.name for alias in node.names)
                else:
                    names.append(node.name)
            self.assertEqual(len(names), len(set(names)), path)

    def test_imports(self):
        drawn = {}
        for path, node in everything(ast.ImportFrom):
            self.assertEqual(node.level, 0)
            self.assertRegex(node.module, r"\Atreestream\.\w+\Z")
            source = PACKAGE / (node.module.split(".")[1] + ".py")
            tops = [top.targets[0].id if isinstance(top, ast.Assign) else top.name for top in TREES[source].body
                    if isinstance(top, (ast.Assign, ast.FunctionDef, ast.ClassDef))]
            used = {name.id for name in ast.walk(TREES[path]) if isinstance(name, ast.Name)}
            for alias in node.names:
                self.assertIsNone(alias.asname)
                self.assertIn(alias.name, tops)
                self.assertIn(alias.name, used, path)
            drawn.setdefault(path, set()).add(source)
        while drawn:
            free = [path for path in drawn if not drawn[path] & set(drawn)]
            self.assertTrue(free, "files that draw from one another")
            for path in free:
                del drawn[path]

    def test_the_way_in(self):
        where = [path.name for path, tree in TREES.items() for node in tree.body if getattr(node, "name", "") == "answers"]
        self.assertEqual(where, ["reading.py"])


class WhatIsWritten(unittest.TestCase):
    def test_statements(self):
        for path, node in everything(ast.stmt):
            self.assertIsInstance(node, STATEMENTS, (path, node.lineno))
            if isinstance(node, ast.Expr) and not is_docstring(TREES[path], node):
                self.assertIsInstance(node.value, ast.Call, (path, node.lineno))
            if isinstance(node, ast.Assign):
                self.assertEqual(len(node.targets), 1)
            if isinstance(node, (ast.For, ast.While)):
                self.assertFalse(node.orelse)
            if isinstance(node, ast.Try):
                self.assertFalse(node.finalbody)
            if isinstance(node, (ast.FunctionDef, ast.ClassDef)):
                self.assertFalse(node.decorator_list)

    def test_expressions(self):
        for path, node in everything(ast.expr):
            self.assertIsInstance(node, EXPRESSIONS, (path, node.lineno))
            if isinstance(node, ast.Constant):
                self.assertIsInstance(node.value, (int, str, bool, type(None)))
                self.assertNotIn("%", str(node.value))
            if isinstance(node, ast.BinOp):
                self.assertNotIsInstance(node.op, ast.Div)
            if isinstance(node, ast.Compare):
                for operator, other in zip(node.ops, node.comparators):
                    if isinstance(operator, (ast.Is, ast.IsNot)):
                        self.assertIn(ast.unparse(other), ("None", "True", "False"))
            if isinstance(node, ast.ListComp):
                self.assertEqual(len(node.generators), 1)
            if isinstance(node, ast.Call):
                self.assertFalse(node.keywords)

    def test_parameters(self):
        for path, node in everything(ast.arguments):
            self.assertFalse(node.vararg or node.kwarg or node.kwonlyargs or node.posonlyargs or node.defaults)
        for path, node in everything(ast.arg):
            self.assertIsNone(node.annotation)
            self.assertNotIn(node.arg, PYTHONS_OWN)

    def test_loops_leave_alone_what_they_walk(self):
        for path, loop in everything(ast.For):
            walked = ast.unparse(loop.iter)
            for node in ast.walk(loop):
                if isinstance(node, ast.Call) and isinstance(node.func, ast.Attribute):
                    if node.func.attr in ("append", "extend", "pop", "insert", "remove", "clear"):
                        self.assertNotEqual(ast.unparse(node.func.value), walked)


class Names(unittest.TestCase):
    def test_they_are_plain(self):
        for path, node in everything((ast.Name, ast.FunctionDef, ast.ClassDef, ast.Attribute, ast.arg)):
            name = getattr(node, "id", None) or getattr(node, "name", None) or getattr(node, "attr", None) or node.arg
            self.assertNotIn(name, UNUSED, path)
            self.assertRegex(name, r"\A([A-Za-z]\w*|__init__)\Z")

    def test_every_name_is_the_files_or_one_of_pythons_that_are_free(self):
        for path, tree in TREES.items():
            bound = {node.id for node in ast.walk(tree) if isinstance(node, ast.Name) and isinstance(node.ctx, ast.Store)}
            bound |= {node.arg for node in ast.walk(tree) if isinstance(node, ast.arg)}
            self.assertFalse(bound & PYTHONS_OWN, path)
            tops = {node.name for node in tree.body if isinstance(node, ast.ClassDef)}
            tops |= {alias.name for node in tree.body if isinstance(node, ast.ImportFrom) for alias in node.names}
            self.assertFalse(bound & tops, path)
            bound |= tops | {node.name for node in tree.body if isinstance(node, ast.FunctionDef)}
            for node in ast.walk(tree):
                if isinstance(node, ast.Name):
                    self.assertIn(node.id, bound | BUILTINS, path)

    def test_methods_and_values(self):
        own = [node.name for node in methods() if isinstance(node, ast.FunctionDef)]
        self.assertFalse(set(own) & set(values()))
        self.assertFalse(set(own) & (PYTHONS_ATTRIBUTES - METHODS))
        self.assertFalse(set(values()) & (VALUES_NOT_TO_BE | (PYTHONS_ATTRIBUTES - FREE_VALUES)))
        for path, node in everything(ast.Call):
            if isinstance(node.func, ast.Attribute):
                self.assertIn(node.func.attr, METHODS | set(own), path)

    def test_classes(self):
        for path, node in everything(ast.ClassDef):
            self.assertIn(node, TREES[path].body)
            self.assertLessEqual(len(node.bases), 1)
            self.assertFalse(node.keywords)
            names = [part.name for part in node.body if isinstance(part, ast.FunctionDef)]
            self.assertEqual(len(names), len(set(names)))
            for part in node.body:
                self.assertIsInstance(part, (ast.FunctionDef, ast.Pass))


if __name__ == "__main__":
    unittest.main()
