"""What of the language rules shows in the files themselves: sizes, signs, folders, imports."""

import ast
import pathlib
import unittest

PACKAGE = pathlib.Path(__file__).resolve().parent.parent / "treerounds"
FILES = sorted(PACKAGE.rglob("*.py"))


def trees_of_files():
    """Each file with its syntax tree."""
    return [(str(path), ast.parse(path.read_text())) for path in FILES]


class Form(unittest.TestCase):
    def test_files_have_plain_signs_and_are_short(self):
        self.assertLessEqual(len(FILES), 100)
        for path in FILES:
            text = path.read_text(encoding="ascii")
            rows = text.split("\n")
            self.assertLessEqual(len(rows), 399, path)
            self.assertTrue(all(sign == "\n" or " " <= sign <= "~" for sign in text), path)
            self.assertTrue(all(len(row) <= 120 for row in rows), path)

    def test_each_folder_is_a_package(self):
        for path in FILES:
            self.assertTrue((path.parent / "__init__.py").is_file(), path)

    def test_functions_are_short(self):
        for path, tree in trees_of_files():
            for node in ast.walk(tree):
                if isinstance(node, ast.FunctionDef):
                    self.assertLessEqual(node.end_lineno - node.lineno + 1, 40, (path, node.name))

    def test_imports_name_what_they_take(self):
        for path, tree in trees_of_files():
            for node in ast.walk(tree):
                self.assertNotIsInstance(node, ast.Import, path)
                if isinstance(node, ast.ImportFrom):
                    self.assertEqual(node.level, 0, path)
                    self.assertNotEqual(node.names[0].name, "*", path)

    def test_no_floats(self):
        for path, tree in trees_of_files():
            for node in ast.walk(tree):
                self.assertNotIsInstance(node, ast.Div, path)
                self.assertFalse(isinstance(node, ast.Constant) and isinstance(node.value, float), path)


if __name__ == "__main__":
    unittest.main()
