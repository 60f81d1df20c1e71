"""The rules of LANGUAGE.md that can be counted, and where the interface wants its names."""

import ast
import pathlib
import unittest

FOLDER = pathlib.Path(__file__).resolve().parent.parent / "throwskept"
FILES = sorted(path for path in FOLDER.rglob("*") if path.is_file() and path.suffix != ".pyc")

INTERFACE = {
    "errors": ["ThrowError", "Clash", "NoBridge", "NoPlace", "NotPlain", "BadText"],
    "states": ["thing_count", "after", "run", "start_of", "state_at"],
    "judge": ["judge", "accepts"],
}


class LanguageTest(unittest.TestCase):
    def test_files(self):
        self.assertEqual([path.name for path in FILES if path.suffix != ".py"], [])
        self.assertIn(FOLDER / "__init__.py", FILES)

    def test_sizes_and_characters(self):
        for path in FILES:
            text = path.read_text(encoding="utf-8")
            lines = text.split("\n")
            self.assertLessEqual(len(lines) - 1, 399, path)
            self.assertLessEqual(max(len(line) for line in lines), 120, path)
            self.assertTrue(all(sign == "\n" or " " <= sign <= "~" for sign in text), path)

    def test_functions_are_short(self):
        for path in FILES:
            for node in ast.walk(ast.parse(path.read_text(encoding="utf-8"))):
                if isinstance(node, ast.FunctionDef):
                    self.assertLessEqual(node.end_lineno - node.lineno + 1, 40, (path, node.name))

    def test_imports_only_from_the_package(self):
        for path in FILES:
            for node in ast.walk(ast.parse(path.read_text(encoding="utf-8"))):
                self.assertNotIsInstance(node, ast.Import)
                if isinstance(node, ast.ImportFrom):
                    self.assertEqual((node.module.split(".")[0], node.level), ("throwskept", 0), path)

    def test_no_percent_sign_in_strings(self):
        for path in FILES:
            for node in ast.walk(ast.parse(path.read_text(encoding="utf-8"))):
                if isinstance(node, ast.Constant) and isinstance(node.value, str):
                    self.assertNotIn("%", node.value, path)

    def test_interface_is_defined_in_its_files(self):
        for module, names in INTERFACE.items():
            tree = ast.parse((FOLDER / f"{module}.py").read_text(encoding="utf-8"))
            defined = [node.name for node in tree.body if isinstance(node, (ast.FunctionDef, ast.ClassDef))]
            for name in names:
                self.assertIn(name, defined)


if __name__ == "__main__":
    unittest.main()
