"""The form of the package: what can be told of its files without running them."""

import ast
import pathlib
import unittest
import warnings

import tiehalves

FOLDER = pathlib.Path(tiehalves.__file__).parent
INTERFACE = {
    "errors": ["TieError", "BadPlaces", "BadTies", "BadMany"],
    "answers": ["Answer", "Even", "Odd", "Shares", "Ring"],
    "halving": ["halved", "nearly"],
    "sharing": ["shared"],
}
BUILTINS = {"len", "range", "enumerate", "max", "min", "sum", "list", "tuple", "any", "all", "isinstance", "int", "bool",
            "zip", "ValueError"}
METHODS = {"append", "pop", "get", "values", "setdefault", "items"}
BARRED = (ast.Global, ast.Nonlocal, ast.AsyncFunctionDef, ast.Await, ast.Yield, ast.YieldFrom, ast.Lambda, ast.Set,
          ast.SetComp, ast.GeneratorExp, ast.Starred, ast.NamedExpr, ast.Div, ast.MatMult, ast.Pow, ast.Try, ast.With,
          ast.Delete, ast.Import, ast.Match, ast.AnnAssign)


def files():
    return sorted(path for path in FOLDER.iterdir() if path.name != "__pycache__")


def trees():
    return [(path, ast.parse(path.read_text(encoding="ascii"))) for path in files()]


def nodes(kind):
    return [(path, node) for path, tree in trees() for node in ast.walk(tree) if isinstance(node, kind)]


class Form(unittest.TestCase):
    def test_the_folder_has_plain_files_alone(self):
        for path in files():
            self.assertTrue(path.is_file() and path.suffix == ".py", path)
        self.assertIn("__init__.py", [path.name for path in files()])

    def test_characters_and_sizes(self):
        for path in files():
            text = path.read_bytes().decode("ascii")
            self.assertTrue(all(sign == "\n" or " " <= sign <= "~" for sign in text), path)
            self.assertLess(len(text.splitlines()), 400)
            self.assertTrue(all(len(line) <= 120 and line == line.rstrip() for line in text.splitlines()), path)
        for path, node in nodes(ast.FunctionDef):
            self.assertLessEqual(node.end_lineno - node.lineno + 1, 40, (path, node.name))

    def test_python_gives_no_warning(self):
        for path in files():
            with warnings.catch_warnings():
                warnings.simplefilter("error")
                compile(path.read_text(), str(path), "exec")

    def test_imports_come_from_the_very_file(self):
        defined = {path.stem: {node.name for node in tree.body if hasattr(node, "name")}
                   | {name.id for node in tree.body if isinstance(node, ast.Assign) for name in node.targets}
                   for path, tree in trees()}
        for path, node in nodes(ast.ImportFrom):
            self.assertEqual(node.level, 0)
            package, _, stem = node.module.partition(".")
            self.assertEqual(package, "tiehalves")
            for name in node.names:
                self.assertIn(name.name, defined[stem])
                self.assertIsNone(name.asname)

    def test_every_import_is_used(self):
        for path, tree in trees():
            used = {node.id for node in ast.walk(tree) if isinstance(node, ast.Name)}
            for node in tree.body:
                if isinstance(node, ast.ImportFrom):
                    self.assertLessEqual({name.name for name in node.names}, used, path)

    def test_the_interface_stands_where_it_is_listed(self):
        found = {path.stem: [node.name for node in tree.body if isinstance(node, (ast.ClassDef, ast.FunctionDef))]
                 for path, tree in trees()}
        for stem, names in INTERFACE.items():
            for name in names:
                self.assertIn(name, found[stem])
        for _, node in nodes(ast.ClassDef):
            if node.name in ("Even", "Odd", "Shares", "Ring"):
                names = [part.name for part in node.body if isinstance(part, ast.FunctionDef)]
                self.assertEqual(names, ["__init__", "shows"])

    def test_module_level_and_statements(self):
        for path, tree in trees():
            for node in tree.body:
                self.assertIsInstance(node, (ast.Expr, ast.ImportFrom, ast.FunctionDef, ast.ClassDef, ast.Assign), path)
        for path, node in nodes(BARRED):
            self.fail((path, node.lineno, node))
        for path, node in nodes((ast.FunctionDef, ast.ClassDef)):
            self.assertEqual(node.decorator_list, [], path)
            inner = [part for part in ast.walk(node) if part is not node and isinstance(part, ast.FunctionDef)]
            self.assertTrue(isinstance(node, ast.ClassDef) or not inner, path)

    def test_only_plain_builtins_and_methods_are_called(self):
        own = {node.name for _, node in nodes((ast.FunctionDef, ast.ClassDef))}
        for path, node in nodes(ast.Call):
            if isinstance(node.func, ast.Name):
                self.assertIn(node.func.id, own | BUILTINS, path)
            else:
                self.assertIn(node.func.attr, METHODS, path)

    def test_no_name_hides_a_builtin(self):
        hidden = set(dir(__builtins__)) if not isinstance(__builtins__, dict) else set(__builtins__)
        for path, node in nodes((ast.Name, ast.arg)):
            name = node.id if isinstance(node, ast.Name) else node.arg
            if isinstance(node, ast.arg) or isinstance(node.ctx, ast.Store):
                self.assertNotIn(name, hidden, path)

    def test_strings_and_numbers(self):
        for path, node in nodes(ast.Constant):
            self.assertNotIsInstance(node.value, (float, complex, bytes), path)
            if isinstance(node.value, str):
                self.assertNotIn("%", node.value, path)
        for path, node in nodes(ast.Compare):
            for sign, right in zip(node.ops, node.comparators):
                if isinstance(sign, (ast.Is, ast.IsNot)):
                    self.assertIn(right.value, (None, True, False), path)


if __name__ == "__main__":
    unittest.main()
