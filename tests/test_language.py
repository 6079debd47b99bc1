"""The rules of ../shared/LANGUAGE.md that a short look at the files can check."""

import ast
import pathlib
import unittest

PACKAGE = pathlib.Path(__file__).resolve().parent.parent / "fairbourse"
FILES = sorted(path for path in PACKAGE.rglob("*") if path.is_file() and path.suffix != ".pyc")
LIBRARY = {"heapq", "math", "itertools", "collections", "__future__"}
BARRED_NAMES = {"register", "mro", "elements", "open", "input", "law", "version_info", "with_traceback", "add_note"}
BARRED_WORDS = {"type", "typing", "enum", "Enum", "dataclass", "overload", "contextmanager", "namedtuple", "global"}
BUILTINS_IN_USE = {
    "len", "range", "enumerate", "zip", "min", "max", "sum", "abs", "sorted", "reversed", "int", "str", "bool", "list",
    "tuple", "dict", "set", "isinstance", "any", "all", "divmod", "ord", "super", "ValueError",
}


def trees():
    for path in FILES:
        yield path, ast.parse(path.read_text(encoding="ascii"))


class LanguageTest(unittest.TestCase):
    def test_the_folder_contains_python_files_alone(self):
        self.assertTrue(FILES)
        for path in FILES:
            self.assertEqual(path.suffix, ".py", path)
            self.assertEqual(path.name, path.name.lower())

    def test_sizes_and_characters(self):
        for path in FILES:
            lines = path.read_text(encoding="ascii").split("\n")
            self.assertLessEqual(len(lines), 400, path)
            for line in lines:
                self.assertLessEqual(len(line), 120, path)
                self.assertTrue(all(" " <= sign <= "~" for sign in line), path)

    def test_sizes_of_functions(self):
        for path, tree in trees():
            for node in ast.walk(tree):
                if isinstance(node, ast.FunctionDef):
                    self.assertLessEqual(node.end_lineno - node.lineno + 1, 40, (path, node.name))

    def test_imports(self):
        for path, tree in trees():
            for node in ast.walk(tree):
                self.assertNotIsInstance(node, ast.Import, path)
                if isinstance(node, ast.ImportFrom):
                    self.assertIn(node, tree.body)
                    self.assertEqual(node.level, 0)
                    package = node.module.split(".")[0]
                    self.assertTrue(package == "fairbourse" or package in LIBRARY, path)
                    self.assertTrue(all(name.name != "*" for name in node.names), path)

    def test_module_level(self):
        allowed = (ast.ImportFrom, ast.FunctionDef, ast.ClassDef, ast.Assign)
        for path, tree in trees():
            self.assertIsNotNone(ast.get_docstring(tree), path)
            bound = []
            for node in tree.body[1:]:
                self.assertIsInstance(node, allowed, path)
                bound.extend([name.name for name in getattr(node, "names", [])])
                bound.extend([target.id for target in getattr(node, "targets", [])])
            self.assertEqual(len(bound), len(set(bound)), path)

    def test_numbers_and_strings(self):
        for path, tree in trees():
            for node in ast.walk(tree):
                self.assertNotIsInstance(node, (ast.Div, ast.Global, ast.AsyncFunctionDef), path)
                if isinstance(node, ast.Constant):
                    self.assertNotIsInstance(node.value, (float, complex), path)
                    if isinstance(node.value, str):
                        self.assertNotIn("%", node.value, path)

    def test_names(self):
        for path, tree in trees():
            for node in ast.walk(tree):
                for name in (getattr(node, field, None) for field in ("id", "attr", "arg", "name")):
                    if isinstance(name, str):
                        self.assertNotIn(name, BARRED_NAMES | BARRED_WORDS, path)

    def test_only_known_builtins_are_called(self):
        for path, tree in trees():
            bound = {node.name for node in ast.walk(tree) if isinstance(node, (ast.FunctionDef, ast.ClassDef))}
            bound |= {name.name for node in tree.body if isinstance(node, ast.ImportFrom) for name in node.names}
            for node in ast.walk(tree):
                if isinstance(node, ast.Call) and isinstance(node.func, ast.Name):
                    self.assertIn(node.func.id, bound | BUILTINS_IN_USE, path)


if __name__ == "__main__":
    unittest.main()
