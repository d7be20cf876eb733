"""What LANGUAGE.md says of the form of the files, as far as it is simple."""

import ast
import pathlib
import unittest

PACKAGE = pathlib.Path(__file__).resolve().parent.parent / "asyncframes"
LIBRARY = ("heapq", "math", "itertools", "collections")


def files():
    return sorted(PACKAGE.rglob("*.py"))


class Form(unittest.TestCase):
    def test_the_folder_contains_python_files_only(self):
        for path in PACKAGE.iterdir():
            if path.name != "__pycache__":
                self.assertTrue(path.is_file() and path.suffix == ".py", path)
        self.assertTrue((PACKAGE / "__init__.py").is_file())

    def test_characters_and_lengths(self):
        for path in files():
            lines = path.read_text(encoding="utf-8").split("\n")
            self.assertLessEqual(len(lines) - 1, 399, path)
            for number, line in enumerate(lines, 1):
                self.assertLessEqual(len(line), 120, (path, number))
                self.assertTrue(all(" " <= sign <= "~" for sign in line), (path, number))

    def test_functions_are_short(self):
        for path in files():
            for node in ast.walk(ast.parse(path.read_text(encoding="utf-8"))):
                if isinstance(node, ast.FunctionDef):
                    self.assertLessEqual(node.end_lineno - node.lineno + 1, 40, (path, node.name))

    def test_imports(self):
        for path in files():
            for node in ast.walk(ast.parse(path.read_text(encoding="utf-8"))):
                self.assertNotIsInstance(node, ast.Import, path)
                if isinstance(node, ast.ImportFrom):
                    self.assertEqual(node.level, 0, path)
                    self.assertTrue(node.module.startswith("asyncframes.") or node.module in LIBRARY, (path, node.module))
                    self.assertNotIn("*", [name.name for name in node.names], path)


if __name__ == "__main__":
    unittest.main()
