"""A few rules for the files of the package that a test can see: sizes, characters and imports."""

import ast
import unittest
from pathlib import Path

PACKAGE = Path(__file__).resolve().parent.parent / "labelhouse"
FILES = sorted(PACKAGE.glob("*.py"))
LIBRARY = ("heapq", "math", "itertools", "collections", "__future__")


def imports(tree):
    return [node for node in ast.walk(tree) if isinstance(node, (ast.Import, ast.ImportFrom))]


def reached(name, table, seen):
    for other in table.get(name, ()):
        if other not in seen:
            seen.add(other)
            reached(other, table, seen)
    return seen


class RulesTest(unittest.TestCase):
    def test_sizes_and_characters(self):
        self.assertTrue(FILES)
        for path in FILES:
            text = path.read_bytes()
            self.assertTrue(set(text) <= set(range(32, 127)) | {10}, path.name)
            lines = text.decode("ascii").split("\n")
            self.assertLessEqual(len(lines) - 1, 399, path.name)
            self.assertLessEqual(max(len(line) for line in lines), 120, path.name)
            for node in ast.walk(ast.parse(text)):
                if isinstance(node, ast.FunctionDef):
                    self.assertLessEqual(node.end_lineno - node.lineno + 1, 40, (path.name, node.name))

    def test_imports(self):
        table = {}
        for path in FILES:
            for node in imports(ast.parse(path.read_text("ascii"))):
                if path.name == "__main__.py" and isinstance(node, ast.Import):
                    self.assertEqual([alias.name for alias in node.names], ["sys"])
                    continue
                self.assertIsInstance(node, ast.ImportFrom, path.name)
                self.assertEqual(node.level, 0, path.name)
                package, _, module = node.module.partition(".")
                if package == "labelhouse":
                    self.assertTrue((PACKAGE / f"{module}.py").is_file(), (path.name, node.module))
                    table.setdefault(path.stem, []).append(module)
                else:
                    self.assertIn(node.module, LIBRARY, path.name)
        for name in table:
            self.assertNotIn(name, reached(name, table, set()))

    def test_strings(self):
        for path in FILES:
            for node in ast.walk(ast.parse(path.read_text("ascii"))):
                if isinstance(node, ast.Constant):
                    self.assertNotIsInstance(node.value, float, path.name)
                    if isinstance(node.value, str):
                        self.assertNotIn("%", node.value, path.name)


if __name__ == "__main__":
    unittest.main()
