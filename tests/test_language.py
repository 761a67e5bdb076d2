"""The rules of the language that a look at the code can tell: it is a small subset of Python."""

import ast
import builtins
import unittest
from pathlib import Path

PACKAGE = Path(__file__).resolve().parent.parent / "heardtrue"
FILES = sorted(PACKAGE.rglob("*.py"))

STATEMENTS = (
    ast.Assign, ast.AugAssign, ast.If, ast.While, ast.For, ast.Return, ast.Break, ast.Continue, ast.Pass, ast.Raise,
    ast.Assert, ast.Delete, ast.Try, ast.Expr, ast.FunctionDef, ast.ClassDef, ast.ImportFrom,
)
BUILTINS = (
    "len range enumerate zip min max sum abs sorted reversed int str bool bytes list tuple dict set isinstance ord repr "
    "any all divmod ValueError"
).split()
METHODS = (
    "append clear copy count endswith extend find get index insert items join keys pop remove replace reverse setdefault "
    "split startswith strip update values add discard bit_length partition removeprefix __init__"
).split()
LIBRARY = {"heapq": ("heappush", "heappop"), "math": ("isqrt",)}
BARRED = (
    "mro elements open input law register type eval exec exit dir help id vars globals locals compile sys os map filter "
    "next iter hash round format"
).split()


def trees():
    return [(path, ast.parse(path.read_text())) for path in FILES]


def nodes(*kinds):
    return [(path, node) for path, tree in trees() for node in ast.walk(tree) if isinstance(node, kinds)]


def names_bound(tree):
    """All names that are assigned, defined, imported or taken as parameters."""
    found = []
    for node in ast.walk(tree):
        if isinstance(node, (ast.FunctionDef, ast.ClassDef)):
            found.append(node.name)
        elif isinstance(node, ast.arg):
            found.append(node.arg)
        elif isinstance(node, ast.alias):
            found.append(node.asname or node.name)
        elif isinstance(node, ast.ExceptHandler) and node.name is not None:
            found.append(node.name)
        elif isinstance(node, ast.Name) and not isinstance(node.ctx, ast.Load):
            found.append(node.id)
    return found


class Files(unittest.TestCase):
    def test_the_folder_holds_python_files_alone(self):
        held = [path for path in PACKAGE.rglob("*") if "__pycache__" not in path.parts and path.is_file()]
        self.assertEqual(sorted(held), FILES)
        self.assertIn(PACKAGE / "__init__.py", FILES)

    def test_sizes_and_characters(self):
        for path in FILES:
            lines = path.read_bytes().decode("ascii").split("\n")
            self.assertLessEqual(len(lines) - 1, 399, path)
            for line in lines:
                self.assertLessEqual(len(line), 120, path)
                self.assertTrue(all(" " <= sign <= "~" for sign in line), path)

    def test_functions_are_short(self):
        for path, node in nodes(ast.FunctionDef):
            self.assertLessEqual(node.end_lineno - node.lineno + 1, 40, (path, node.name))


class Words(unittest.TestCase):
    def test_statements(self):
        for path, node in nodes(ast.stmt):
            self.assertIsInstance(node, STATEMENTS, path)

    def test_module_level(self):
        for path, tree in trees():
            for node in tree.body:
                plain = isinstance(node, (ast.FunctionDef, ast.ClassDef, ast.ImportFrom, ast.Assign))
                docstring = isinstance(node, ast.Expr) and isinstance(node.value, ast.Constant)
                self.assertTrue(plain or docstring, (path, node.lineno))

    def test_imports_name_the_file_that_defines_the_name(self):
        for path, tree in trees():
            for node in [node for node in ast.walk(tree) if isinstance(node, ast.ImportFrom)]:
                self.assertEqual(node.level, 0)
                if node.module in LIBRARY:
                    self.assertLessEqual({alias.name for alias in node.names}, set(LIBRARY[node.module]))
                    continue
                package, name = node.module.split(".")
                self.assertEqual(package, "heardtrue")
                source = ast.parse((PACKAGE / f"{name}.py").read_text())
                bound = [item for part in source.body if not isinstance(part, ast.ImportFrom) for item in names_bound(part)]
                for alias in node.names:
                    self.assertIsNone(alias.asname)
                    self.assertIn(alias.name, bound, path)

    def test_values(self):
        for path, node in nodes(ast.Constant):
            self.assertNotIsInstance(node.value, (float, complex, bytes), path)
        for path, node in nodes(ast.BinOp, ast.AugAssign):
            self.assertNotIsInstance(node.op, (ast.Div, ast.Pow, ast.MatMult), (path, node.lineno))

    def test_no_decorators_and_plain_defaults(self):
        for path, node in nodes(ast.FunctionDef, ast.Lambda):
            self.assertFalse(getattr(node, "decorator_list", []), path)
            for default in node.args.defaults:
                self.assertIsInstance(default, ast.Constant, path)
            if isinstance(node, ast.Lambda):
                self.assertFalse(node.args.defaults + node.args.kwonlyargs, path)

    def test_targets_stand_in_no_brackets(self):
        for path, node in nodes(ast.List):
            self.assertIsInstance(node.ctx, ast.Load, (path, node.lineno))

    def test_names_of_the_library_are_only_called(self):
        for path, tree in trees():
            called = [node.func for node in ast.walk(tree) if isinstance(node, ast.Call)]
            for node in ast.walk(tree):
                if isinstance(node, ast.Name) and node.id in sum(LIBRARY.values(), ()):
                    self.assertIn(node, called, path)

    def test_no_percent_signs_and_escapes_in_strings(self):
        for path, tree in trees():
            docstrings = [
                node.body[0].value for node in ast.walk(tree)
                if isinstance(node, (ast.Module, ast.ClassDef, ast.FunctionDef)) and ast.get_docstring(node) is not None
            ]
            for node in ast.walk(tree):
                if isinstance(node, ast.Constant) and isinstance(node.value, str) and node not in docstrings:
                    self.assertNotIn("%", node.value, path)
            self.assertNotIn("\\", path.read_text().replace('"\\n"', ""), path)


class Names(unittest.TestCase):
    def test_names_that_are_read(self):
        for path, tree in trees():
            bound = names_bound(tree)
            for node in ast.walk(tree):
                if isinstance(node, ast.Name) and isinstance(node.ctx, ast.Load):
                    self.assertTrue(node.id in bound or node.id in BUILTINS, (path, node.id))
                    self.assertNotEqual(node.id, "_", path)

    def test_names_that_are_bound(self):
        for path, tree in trees():
            for name in names_bound(tree):
                self.assertFalse(name in BUILTINS or name in BARRED, (path, name))
                self.assertFalse(name.startswith("__") and name != "__init__", (path, name))

    def test_no_name_is_that_of_a_builtin(self):
        for path, tree in trees():
            owned = {id(node) for owner in ast.walk(tree) if isinstance(owner, ast.ClassDef) for node in owner.body}
            # A doctest that has run leaves the name _ among the builtins.
            taken = set(dir(builtins)) - {"_"}
            for node in ast.walk(tree):
                if isinstance(node, ast.FunctionDef) and id(node) not in owned:
                    self.assertNotIn(node.name, taken, path)
                elif isinstance(node, ast.arg):
                    self.assertNotIn(node.arg, taken, path)
                elif isinstance(node, ast.Name) and isinstance(node.ctx, ast.Store):
                    self.assertNotIn(node.id, taken, path)

    def test_own_methods_and_attributes_are_no_ones_of_builtin_values(self):
        taken = {name for kind in (int, str, list, dict, set, tuple, bytes) for name in dir(kind)}
        for path, owner in nodes(ast.ClassDef):
            for node in ast.walk(owner):
                if isinstance(node, ast.FunctionDef) and node.name != "__init__":
                    self.assertNotIn(node.name, taken, path)
                if isinstance(node, ast.Attribute) and isinstance(node.ctx, ast.Store):
                    self.assertNotIn(node.attr, taken, path)

    def test_no_files_import_each_other(self):
        reached = {
            path.stem: {node.module.split(".")[-1] for node in ast.walk(tree)
                        if isinstance(node, ast.ImportFrom) and node.module.startswith("heardtrue.")}
            for path, tree in trees()
        }
        for _ in reached:
            reached = {name: told | {far for near in told for far in reached[near]} for name, told in reached.items()}
        for name, told in reached.items():
            self.assertNotIn(name, told)

    def test_imports_and_classes_keep_their_names(self):
        for path, tree in trees():
            for function in [node for node in ast.walk(tree) if isinstance(node, ast.FunctionDef)]:
                for node in tree.body:
                    if isinstance(node, ast.ImportFrom):
                        for alias in node.names:
                            self.assertNotIn(alias.name, names_bound(function), path)

    def test_methods(self):
        own = [node.name for _, owner in nodes(ast.ClassDef) for node in owner.body if isinstance(node, ast.FunctionDef)]
        for path, node in nodes(ast.Call):
            if isinstance(node.func, ast.Attribute):
                self.assertIn(node.func.attr, METHODS + own, (path, node.lineno))

    def test_methods_and_attributes_have_different_names(self):
        for path, owner in nodes(ast.ClassDef):
            own = [node.name for node in owner.body if isinstance(node, ast.FunctionDef)]
            self.assertEqual(len(own), len(set(own)), path)
            for node in ast.walk(owner):
                if isinstance(node, ast.Attribute) and isinstance(node.ctx, ast.Store):
                    self.assertNotIn(node.attr, own + METHODS, (path, node.lineno))


if __name__ == "__main__":
    unittest.main()
