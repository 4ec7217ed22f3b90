"""Those rules of the language of the program that can be seen line by line."""

import ast
import builtins
import unittest
from pathlib import Path

PACKAGE = Path(__file__).resolve().parent.parent / "paintershouse"
FILES = sorted(path for path in PACKAGE.rglob("*") if path.is_file() and "__pycache__" not in path.parts)

LIBRARY = ("heapq", "math", "itertools", "collections")
BUILTINS = set("""
len range enumerate zip min max sum abs sorted reversed int str bool bytes list tuple dict set isinstance ord repr
any all divmod pow getattr hasattr setattr map iter next super Exception ValueError TypeError KeyError IndexError
LookupError ZeroDivisionError ArithmeticError OverflowError RuntimeError NotImplementedError AttributeError
StopIteration NotImplemented
""".split())
METHODS = set("""
append clear copy count endswith extend find get index insert isalnum isalpha isdigit islower isspace isupper items
join keys ljust lower lstrip partition pop remove replace reverse rfind rjust rpartition rsplit rstrip setdefault
split splitlines startswith strip update upper values zfill bit_length sort add discard isascii removeprefix __init__
""".split())
BARRED_NAMES = set("""
mro elements open input law version_info with_traceback add_note register attrgetter breakpoint builtins compile
copyright credits delattr dir eval exec exit gc globals help id importlib license locals methodcaller os quit vars
type typing enum sys
""".split())
STATEMENTS = (
    ast.Assign, ast.AugAssign, ast.If, ast.While, ast.For, ast.Return, ast.Break, ast.Continue, ast.Pass, ast.Raise,
    ast.Assert, ast.Delete, ast.Nonlocal, ast.Match, ast.With, ast.Try, ast.Expr, ast.FunctionDef, ast.ClassDef,
    ast.ImportFrom,
)


def trees():
    for path in FILES:
        yield path.name, ast.parse(path.read_text(encoding="utf-8"))


def nodes(*kinds):
    for name, tree in trees():
        for node in ast.walk(tree):
            if isinstance(node, kinds):
                yield name, node


def own_names(tree):
    """The names that a file binds at module level."""
    for node in tree.body:
        if isinstance(node, (ast.FunctionDef, ast.ClassDef)):
            yield node.name
        elif isinstance(node, ast.Assign):
            yield node.targets[0].id
        elif isinstance(node, ast.ImportFrom):
            yield from (alias.name for alias in node.names)


class FilesTests(unittest.TestCase):
    def test_only_python_files(self):
        for path in FILES:
            self.assertRegex(path.name, r"^[a-z0-9_]+\.py$")

    def test_sizes_and_characters(self):
        for path in FILES:
            text = path.read_text(encoding="utf-8")
            self.assertTrue(set(text) <= set(map(chr, range(32, 127))) | {"\n"}, path.name)
            self.assertNotRegex(text, "_wall|_WallAttr", path.name)
            self.assertLessEqual(len(text.splitlines()), 399, path.name)
            for line in text.splitlines():
                self.assertLessEqual(len(line), 120, path.name)

    def test_functions_are_short(self):
        for name, node in nodes(ast.FunctionDef):
            self.assertLessEqual(node.end_lineno - node.lineno + 1, 40, (name, node.name))

    def test_module_level(self):
        for name, tree in trees():
            for k, node in enumerate(tree.body):
                if k == 0 and isinstance(node, ast.Expr):
                    continue
                self.assertIsInstance(node, (ast.ImportFrom, ast.FunctionDef, ast.ClassDef, ast.Assign), name)
                if isinstance(node, ast.Assign):
                    self.assertEqual(len(node.targets), 1)
                    self.assert_plain(node.value, {item.name for item in tree.body[:k] if isinstance(item, ast.FunctionDef)})

    def assert_plain(self, value, functions):
        """A plain value, or a table of plain values and functions that are defined above."""
        parts = value.elts if isinstance(value, ast.Tuple) else value.values if isinstance(value, ast.Dict) else [value]
        keys = value.keys if isinstance(value, ast.Dict) else []
        for part in parts:
            if isinstance(part, ast.Name):
                self.assertIsNot(part, value)
                self.assertIn(part.id, functions)
            else:
                ast.literal_eval(part)
        for key in keys:
            ast.literal_eval(key)

    def test_one_binding_for_each_name(self):
        for name, tree in trees():
            bound = list(own_names(tree))
            self.assertEqual(len(bound), len(set(bound)), name)
            self.assertFalse(set(bound) & set(dir(builtins)), name)


class ImportsTests(unittest.TestCase):
    def test_imports_name_the_file_that_defines(self):
        defined = dict(trees())
        for name, node in nodes(ast.ImportFrom):
            self.assertEqual(node.level, 0)
            if node.module in LIBRARY:
                continue
            package, file = node.module.split(".")
            self.assertEqual(package, "paintershouse")
            bound = {
                item.name if not isinstance(item, ast.Assign) else item.targets[0].id
                for item in defined[file + ".py"].body
                if isinstance(item, (ast.FunctionDef, ast.ClassDef, ast.Assign))
            }
            for alias in node.names:
                self.assertIsNone(alias.asname)
                self.assertIn(alias.name, bound, name)

    def test_no_files_import_from_each_other(self):
        needs = {}
        for name, node in nodes(ast.ImportFrom):
            if node.module not in LIBRARY:
                needs.setdefault(name, set()).add(node.module.split(".")[1] + ".py")
        while True:
            free = [name for name in needs if not needs[name] & set(needs)]
            if not free:
                break
            for name in free:
                del needs[name]
        self.assertEqual(needs, {})

    def test_imports_are_used(self):
        for name, tree in trees():
            used = {node.id for node in ast.walk(tree) if isinstance(node, ast.Name)}
            for node in tree.body:
                if isinstance(node, ast.ImportFrom):
                    for alias in node.names:
                        self.assertIn(alias.name, used, name)


class WordsTests(unittest.TestCase):
    def test_statements(self):
        for name, node in nodes(ast.stmt):
            self.assertIsInstance(node, STATEMENTS, (name, node.lineno))

    def test_no_floats_and_no_division(self):
        for name, node in nodes(ast.Constant, ast.Div):
            self.assertNotIsInstance(node, ast.Div, name)
            if isinstance(node, ast.Constant):
                self.assertNotIsInstance(node.value, (float, complex), name)

    def test_strings(self):
        for name, node in nodes(ast.Constant):
            if isinstance(node.value, str):
                self.assertNotIn("%", node.value, name)

    def test_builtins(self):
        for name, tree in trees():
            bound = set(own_names(tree))
            for node in ast.walk(tree):
                if isinstance(node, ast.Name) and isinstance(node.ctx, ast.Load) and hasattr(builtins, node.id):
                    self.assertIn(node.id, BUILTINS | bound, (name, node.lineno))

    def test_no_name_has_another_meaning(self):
        for name, tree in trees():
            taken = set(dir(builtins)) | BARRED_NAMES | {
                alias.name for node in tree.body if isinstance(node, ast.ImportFrom) for alias in node.names
            }
            for node in ast.walk(tree):
                if isinstance(node, ast.Name) and isinstance(node.ctx, ast.Store):
                    self.assertNotIn(node.id, taken, (name, node.lineno))
                elif isinstance(node, ast.arg):
                    self.assertNotIn(node.arg, taken, (name, node.lineno))
                elif isinstance(node, (ast.FunctionDef, ast.ClassDef)):
                    self.assertNotIn(node.name, taken, (name, node.lineno))

    def test_methods(self):
        own = {node.name for _, node in nodes(ast.FunctionDef)}
        for name, node in nodes(ast.Call):
            if isinstance(node.func, ast.Attribute):
                self.assertIn(node.func.attr, METHODS | own, (name, node.lineno))

    def test_names(self):
        for name, node in nodes(ast.Name, ast.Attribute, ast.arg, ast.FunctionDef, ast.ClassDef):
            for word in (getattr(node, field, None) for field in ("id", "attr", "arg", "name")):
                if word is not None and word != "__init__":
                    self.assertFalse(word.startswith("__"), (name, word))

    def test_sets_are_never_iterated(self):
        for name, node in nodes(ast.For, ast.comprehension):
            self.assertNotIsInstance(node.iter, (ast.Set, ast.SetComp), name)


if __name__ == "__main__":
    unittest.main()
