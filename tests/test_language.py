"""The rules of ../shared/LANGUAGE.md that a short look at the files can check."""

import ast
import pathlib
import re
import unittest

PACKAGE = pathlib.Path(__file__).resolve().parent.parent / "fairbourse"
FILES = sorted(path for path in PACKAGE.rglob("*") if path.is_file() and path.suffix != ".pyc")
LIBRARY = {"heapq", "math", "itertools", "collections", "__future__"}
BARRED_NAMES = {"register", "mro", "elements", "open", "input", "law", "version_info", "with_traceback", "add_note"}
BARRED_WORDS = {"type", "typing", "enum", "Enum", "dataclass", "overload", "contextmanager", "namedtuple", "global"}
BARRED_STARTS = re.compile("_wall|_pe_|_dcw_|_enum_|_cm_|_twin_re_|_lay_|_law_|_stub_|_sre|_WallAttr")
# Digits and underscores behind one of these names do not make it another name.
BARRED_PLAIN_NAMES = re.compile("(_cold|_tuplegetter|_outside|_record|_written_out|_member_names)[0-9_]*")
PLAIN_NAME = re.compile("_|_?[A-Za-z][A-Za-z0-9_]*")
DOUBLE_UNDERSCORE_NAME = re.compile("__[a-z]+__")
BUILTINS_IN_USE = {
    "len", "range", "enumerate", "zip", "min", "max", "sum", "abs", "sorted", "reversed", "int", "str", "bool", "list",
    "tuple", "dict", "set", "isinstance", "any", "all", "divmod", "ord", "super", "ValueError",
}


def trees():
    for path in FILES:
        yield path, ast.parse(path.read_text(encoding="ascii"))


def names_of(tree):
    """All names of a file, with their lines, and whether each is an attribute or a method."""
    methods = {row for node in ast.walk(tree) if isinstance(node, ast.ClassDef) for row in node.body}
    for node in ast.walk(tree):
        for field in ("id", "attr", "arg", "name", "asname"):
            name = getattr(node, field, None)
            if isinstance(name, str):
                yield name, getattr(node, "lineno", 0), field == "attr" or node in methods
        if isinstance(node, ast.Nonlocal):
            for name in node.names:
                yield name, node.lineno, False


def is_barred(name, is_member):
    """Tell whether rule L12 bars a name; an attribute or a method may begin with `_wall`."""
    if not PLAIN_NAME.fullmatch(name) and not DOUBLE_UNDERSCORE_NAME.fullmatch(name):
        return True
    if BARRED_PLAIN_NAMES.fullmatch(name):
        return True
    start = BARRED_STARTS.match(name)
    return bool(start) and not (is_member and start.group() == "_wall")


class LanguageTest(unittest.TestCase):
    def test_the_folder_contains_python_files_alone(self):
        self.assertTrue(FILES)
        for path in FILES:
            self.assertEqual(path.suffix, ".py", path)
            self.assertEqual(path.name, path.name.lower())

    def test_sizes_and_characters(self):
        for path in FILES:
            lines = path.read_text(encoding="ascii").split("\n")
            self.assertLessEqual(len(lines), 400, path)
            for line in lines:
                self.assertLessEqual(len(line), 120, path)
                self.assertTrue(all(" " <= sign <= "~" for sign in line), path)

    def test_sizes_of_functions(self):
        for path, tree in trees():
            for node in ast.walk(tree):
                if isinstance(node, ast.FunctionDef):
                    self.assertLessEqual(node.end_lineno - node.lineno + 1, 40, (path, node.name))

    def test_imports(self):
        for path, tree in trees():
            for node in ast.walk(tree):
                self.assertNotIsInstance(node, ast.Import, path)
                if isinstance(node, ast.ImportFrom):
                    self.assertIn(node, tree.body)
                    self.assertEqual(node.level, 0)
                    package = node.module.split(".")[0]
                    self.assertTrue(package == "fairbourse" or package in LIBRARY, path)
                    self.assertTrue(all(name.name != "*" for name in node.names), path)

    def test_module_level(self):
        allowed = (ast.ImportFrom, ast.FunctionDef, ast.ClassDef, ast.Assign)
        for path, tree in trees():
            self.assertIsNotNone(ast.get_docstring(tree), path)
            bound = []
            for node in tree.body[1:]:
                self.assertIsInstance(node, allowed, path)
                bound.extend([name.name for name in getattr(node, "names", [])])
                bound.extend([target.id for target in getattr(node, "targets", [])])
            self.assertEqual(len(bound), len(set(bound)), path)

    def test_numbers_and_strings(self):
        for path, tree in trees():
            for node in ast.walk(tree):
                self.assertNotIsInstance(node, (ast.Div, ast.Global, ast.AsyncFunctionDef), path)
                if isinstance(node, ast.Constant):
                    self.assertNotIsInstance(node.value, (float, complex), path)
                    if isinstance(node.value, str):
                        self.assertNotIn("%", node.value, path)

    def test_names(self):
        for path, tree in trees():
            for node in ast.walk(tree):
                for name in (getattr(node, field, None) for field in ("id", "attr", "arg", "name")):
                    if isinstance(name, str):
                        self.assertNotIn(name, BARRED_NAMES | BARRED_WORDS, path)

    def test_plain_names(self):
        barred = []
        for path, tree in trees():
            for word in ("_wall", "_WallAttr"):
                self.assertIsNone(re.search(rf"\b{word}\b", path.read_text(encoding="ascii")), path)
            barred.extend((path.name, line, name) for name, line, member in names_of(tree) if is_barred(name, member))
            for node in ast.walk(tree):
                if isinstance(node, ast.ClassDef):
                    self.assertFalse(node.name.startswith("_"), (path, node.name))
        self.assertEqual(barred, [])

    def test_which_names_are_plain(self):
        for name in ("_", "_low", "_LIMIT", "x1", "_record_trade", "_recorded", "__init__", "_outsider", "_srf"):
            self.assertFalse(is_barred(name, False), name)
        for name in ("_record", "_record_", "_record2", "_cold_7", "_sre_x", "_pe_x", "__low", "_1", "_walls"):
            self.assertTrue(is_barred(name, False), name)
        self.assertFalse(is_barred("_walls", True))
        self.assertTrue(is_barred("_record", True))

    def test_only_known_builtins_are_called(self):
        for path, tree in trees():
            bound = {node.name for node in ast.walk(tree) if isinstance(node, (ast.FunctionDef, ast.ClassDef))}
            bound |= {name.name for node in tree.body if isinstance(node, ast.ImportFrom) for name in node.names}
            for node in ast.walk(tree):
                if isinstance(node, ast.Call) and isinstance(node.func, ast.Name):
                    self.assertIn(node.func.id, bound | BUILTINS_IN_USE, path)


if __name__ == "__main__":
    unittest.main()
