"""Those rules of the language that are plain to count; the others are for the reader."""

import ast
import unittest
import warnings
from pathlib import Path

PACKAGE = Path(__file__).resolve().parent.parent / "errorplaces"
FILES = sorted(PACKAGE.glob("**/*.py"))
LIBRARY = ("heapq", "math", "itertools", "collections", "__future__")


class TestLanguage(unittest.TestCase):

    def test_the_folder_contains_only_python_files(self):
        others = [path for path in PACKAGE.rglob("*") if "__pycache__" not in path.parts and path not in FILES]
        self.assertEqual([path for path in others if not path.is_dir()], [])
        self.assertIn(PACKAGE / "__init__.py", FILES)

    def test_sizes_of_files_and_lines(self):
        for path in FILES:
            lines = path.read_text().split("\n")
            self.assertLessEqual(len(lines), 400, path)
            for line in lines:
                self.assertLessEqual(len(line), 120, (path, line))

    def test_characters(self):
        for path in FILES:
            for line in path.read_text().split("\n"):
                self.assertTrue(all(" " <= sign <= "~" for sign in line), (path, line))

    def test_sizes_of_functions(self):
        for path in FILES:
            for node in ast.walk(ast.parse(path.read_text())):
                if isinstance(node, ast.FunctionDef):
                    self.assertLessEqual(node.end_lineno - node.lineno + 1, 40, (path, node.name))

    def test_imports(self):
        for path in FILES:
            for node in ast.walk(ast.parse(path.read_text())):
                self.assertFalse(isinstance(node, ast.Import) and path.name != "__main__.py", path)
                if isinstance(node, ast.ImportFrom):
                    self.assertIn(node.module.split(".")[0], ("errorplaces", *LIBRARY), path)
                    self.assertEqual(node.level, 0, path)

    def test_python_gives_no_warning(self):
        for path in FILES:
            with warnings.catch_warnings():
                warnings.simplefilter("error")
                compile(path.read_text(), str(path), "exec")


if __name__ == "__main__":
    unittest.main()
