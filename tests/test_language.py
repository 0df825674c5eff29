"""The package keeps to the plain part of Python that it is written in: what can be seen of that in its code."""

import ast
import builtins
import pathlib
import re
import unittest

PACKAGE = pathlib.Path(__file__).resolve().parent.parent / "treelore"

BUILTINS = set("""len range enumerate zip min max sum abs sorted reversed int str bool list tuple dict set isinstance ord
repr any all divmod iter next super ValueError TypeError KeyError IndexError LookupError RuntimeError""".split())
METHODS = set("""append clear copy count endswith extend find get index insert isalnum isalpha isdigit islower isspace
isupper items join keys ljust lower lstrip partition pop remove replace reverse rfind rjust rpartition rsplit rstrip
setdefault split splitlines startswith strip update upper values zfill bit_length add discard""".split())
DUNDERS = {"__init__", "__eq__", "__repr__", "__str__", "__len__", "__enter__", "__exit__", "__call__", "__iter__"}
BARRED = r"\b(type|typing|enum|Enum|Flag|Generic|Protocol|ABC|namedtuple|NamedTuple)\b|dataclass|overload|contextmanager"
UNUSED = set("""register mro elements open input version_info with_traceback add_note compile copyright credits dir eval
exec exit gc getattr globals hasattr help id importlib license locals os quit setattr sys type vars format""".split())
STATEMENTS = (
    ast.Assign, ast.AugAssign, ast.If, ast.While, ast.For, ast.Return, ast.Break, ast.Continue, ast.Pass, ast.Raise,
    ast.Assert, ast.Delete, ast.Try, ast.Expr, ast.FunctionDef, ast.ClassDef, ast.ImportFrom,
)
# What the attributes of the package's objects may not be called: these are methods of Python's own values.
VALUE_NAMES = {name for kind in (str, int, list, dict, set, bytes, tuple) for name in dir(kind)}
# A method that the interface asks for by this name, though sets have one that is called so.
TOLD_METHODS = {"difference"}
FREE_ATTRIBUTES = {"count", "index", "title", "find", "get", "join", "lower", "upper", "split", "strip", "copy", "add"}


def files():
    return sorted(PACKAGE.glob("*.py"))


def parsed(path):
    return ast.parse(path.read_text())


def functions_in(tree):
    return [node for node in ast.walk(tree) if isinstance(node, ast.FunctionDef)]


def classes_in(tree):
    return [node for node in ast.walk(tree) if isinstance(node, ast.ClassDef)]


def defined_in(tree):
    """The names that a file defines itself at its module level."""
    names = [node.name for node in tree.body if isinstance(node, (ast.FunctionDef, ast.ClassDef))]
    return names + [node.targets[0].id for node in tree.body if isinstance(node, ast.Assign)]


def imported_in(tree):
    return [alias.name for node in ast.walk(tree) if isinstance(node, ast.ImportFrom) for alias in node.names]


def bound_in(function):
    """The parameters and local variables of a function."""
    given = function.args
    names = [arg.arg for arg in given.args + given.kwonlyargs]
    stores = [node.id for node in ast.walk(function) if isinstance(node, ast.Name) and isinstance(node.ctx, ast.Store)]
    return names + stores + [arg.arg for node in ast.walk(function) if isinstance(node, ast.Lambda) for arg in node.args.args]


class LanguageTest(unittest.TestCase):
    def each(self, kind):
        """Each node of a kind in the package, with where it stands."""
        for path in files():
            for node in ast.walk(parsed(path)):
                if isinstance(node, kind):
                    yield f"{path.name}:{getattr(node, 'lineno', 0)}", node

    def test_the_folder_has_nothing_but_files_of_python(self):
        for path in PACKAGE.iterdir():
            if path.name != "__pycache__":
                self.assertRegex(path.name, r"^([a-z][a-z0-9_]*|__init__)\.py$")
        self.assertIn("__init__.py", [path.name for path in PACKAGE.iterdir()])

    def test_signs_lines_and_lengths(self):
        for path in files():
            text = path.read_text(encoding="ascii")
            self.assertTrue(all(sign == "\n" or " " <= sign <= "~" for sign in text), path.name)
            rows = text.split("\n")
            self.assertLessEqual(len(rows) - 1, 400, path.name)
            self.assertLessEqual(max(len(row) for row in rows), 120, path.name)
            self.assertIsNone(re.search(BARRED, text), path.name)
            for function in functions_in(parsed(path)):
                self.assertLessEqual(function.end_lineno - function.lineno + 1, 40, (path.name, function.name))

    def test_imports_name_the_file_that_defines(self):
        for path in files():
            for node in parsed(path).body:
                if isinstance(node, ast.ImportFrom):
                    self.assertEqual((node.level, node.module.split(".")[0]), (0, "treelore"), path.name)
                    source = PACKAGE / (node.module.split(".")[1] + ".py")
                    for alias in node.names:
                        self.assertIn(alias.name, defined_in(parsed(source)), path.name)
                        self.assertIsNone(alias.asname)
        for where, node in self.each(ast.Import):
            self.fail(where)

    def test_imports_go_round_nowhere_and_are_used(self):
        needs = {}
        for path in files():
            tree = parsed(path)
            froms = [node for node in tree.body if isinstance(node, ast.ImportFrom)]
            needs[path.stem] = {node.module.split(".")[1] for node in froms}
            used = {node.id for node in ast.walk(tree) if isinstance(node, ast.Name)}
            self.assertEqual(set(imported_in(tree)) - used, set(), path.name)
        done = set()
        while len(done) < len(needs):
            ready = {name for name in needs if name not in done and needs[name] <= done}
            self.assertTrue(ready, "imports go round")
            done |= ready

    def test_module_level(self):
        for path in files():
            tree = parsed(path)
            names = defined_in(tree) + imported_in(tree)
            self.assertEqual(len(names), len(set(names)), path.name)
            self.assertIsInstance(tree.body[0], ast.Expr, path.name)
            for node in tree.body[1:]:
                self.assertIsInstance(node, (ast.ImportFrom, ast.FunctionDef, ast.ClassDef, ast.Assign), path.name)

    def test_statements(self):
        for where, node in self.each(ast.stmt):
            self.assertIsInstance(node, STATEMENTS, where)
        for where, node in self.each((ast.FunctionDef, ast.ClassDef)):
            self.assertEqual(node.decorator_list, [], where)
        for where, node in self.each(ast.Expr):
            self.assertIsInstance(node.value, (ast.Call, ast.Constant), where)

    def test_names(self):
        for path in files():
            tree = parsed(path)
            barred = {node.name for node in classes_in(tree)} | set(imported_in(tree)) | set(dir(builtins)) | UNUSED
            for function in functions_in(tree):
                for name in bound_in(function):
                    self.assertNotIn(name, barred, (path.name, function.name))
                    self.assertRegex(name, r"^[A-Za-z][A-Za-z0-9_]*$", path.name)
                self.assertNotIn(function.name, UNUSED)
                if function.name.startswith("_"):
                    self.assertIn(function.name, DUNDERS, path.name)

    def test_builtins(self):
        for path in files():
            tree = parsed(path)
            known = set(defined_in(tree)) | set(imported_in(tree)) | BUILTINS
            for function in functions_in(tree):
                known |= set(bound_in(function))
            known |= {node.name for node in ast.walk(tree) if isinstance(node, ast.ExceptHandler)}
            for node in ast.walk(tree):
                if isinstance(node, ast.Name):
                    self.assertIn(node.id, known, (path.name, node.lineno))

    def test_methods_and_attributes(self):
        methods, stored, read = set(), set(), {}
        for path in files():
            for node in classes_in(parsed(path)):
                methods |= {item.name for item in node.body if isinstance(item, ast.FunctionDef)}
        for where, node in self.each(ast.Attribute):
            if isinstance(node.ctx, ast.Store):
                stored.add(node.attr)
            else:
                read[node.attr] = where
        self.assertEqual(methods & stored, set())
        self.assertEqual(stored & (VALUE_NAMES - FREE_ATTRIBUTES), set())
        self.assertEqual((methods & VALUE_NAMES) - METHODS - DUNDERS - TOLD_METHODS, set())
        for name, where in read.items():
            self.assertIn(name, methods | stored | METHODS | DUNDERS, where)

    def test_expressions(self):
        for where, node in self.each((ast.Div, ast.NamedExpr, ast.Await, ast.Yield, ast.Set, ast.Pow)):
            self.fail(where)
        for where, node in self.each(ast.FormattedValue):
            self.assertEqual((node.conversion, node.format_spec), (-1, None), where)
            self.assertFalse(any(isinstance(inner, ast.JoinedStr) for inner in ast.walk(node.value)), where)
        for where, node in self.each(ast.Constant):
            self.assertNotIsInstance(node.value, (float, bytes, complex), where)
            if isinstance(node.value, str):
                self.assertNotIn("%", node.value, where)
        for where, node in self.each(ast.Compare):
            if any(isinstance(sign, (ast.Is, ast.IsNot)) for sign in node.ops):
                for side in node.comparators:
                    self.assertTrue(isinstance(side, ast.Constant) and side.value in (None, True, False), where)
        for where, node in self.each(ast.GeneratorExp):
            self.fail(f"{where}: where a class has its own ==, most builtins take a list instead")

    def test_calls(self):
        for where, node in self.each(ast.Call):
            if isinstance(node.func, ast.Attribute):
                self.assertNotEqual(node.func.attr, "sort", where)
            if isinstance(node.func, ast.Name) and node.func.id in BUILTINS:
                self.assertLessEqual({word.arg for word in node.keywords}, {"key", "reverse", "default", "start", "strict"})

    def test_errors_that_are_caught_and_raised(self):
        own = {node.name for node in classes_in(parsed(PACKAGE / "errors.py"))}
        for where, node in self.each(ast.ExceptHandler):
            self.assertIn(node.type.id, own | {"KeyError"}, where)
        for where, node in self.each(ast.Raise):
            if node.exc is not None:
                self.assertIn(node.exc.func.id, own | {"TypeError"}, where)

    def test_told_methods_return_what_they_may(self):
        for where, node in self.each(ast.FunctionDef):
            if node.name == "__len__":
                self.assertEqual(node.body[-1].value.func.id, "len", where)
            if node.name in ("__str__", "__repr__"):
                told = node.body[-1].value.func
                if isinstance(told, ast.Attribute):
                    self.assertEqual((told.attr, isinstance(told.value, ast.Constant)), ("join", True), where)
                else:
                    self.assertEqual(told.id, "str", where)

    def test_what_stands_in_a_finally(self):
        for where, node in self.each(ast.Try):
            for row in node.finalbody:
                self.assertIsInstance(row, (ast.Assign, ast.Expr), where)
                if isinstance(row, ast.Expr):
                    self.assertEqual((row.value.func.attr, len(row.value.args)), ("append", 1), where)
                    self.assert_simple(row.value.args[0], where)
                else:
                    self.assert_simple(row.value, where)

    def assert_simple(self, node, where):
        """What may be assigned or appended in a finally."""
        self.assertIsInstance(node, (ast.Name, ast.Attribute, ast.Constant, ast.Tuple), where)
        for inner in getattr(node, "elts", []):
            self.assert_simple(inner, where)


if __name__ == "__main__":
    unittest.main()
