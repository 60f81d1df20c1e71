"""The rules of LANGUAGE.md that can be counted, and where the interface wants its names."""

import ast
import pathlib
import unittest

FOLDER = pathlib.Path(__file__).resolve().parent.parent / "throwskept"
FILES = sorted(path for path in FOLDER.rglob("*") if path.is_file() and path.suffix != ".pyc")

CLASSES = {
    "errors": ["ThrowError", "Clash", "NoBridge", "NoPlace", "NotPlain", "BadText"],
    "show": ["Show"],
}

METHODS = {
    ("show", "Show"): ["__init__(self, pattern)", "go(self, count)", "change(self, pattern)", "state(self)",
                       "due(self)", "thrown(self)"],
}

FUNCTIONS = {
    "states": ["thing_count(state)", "after(state, beat)", "run(state, beats)", "start_of(pattern)",
               "state_at(pattern, index)"],
    "judge": ["judge(pattern)", "accepts(pattern, paper)"],
    "bridges": ["bridge_length(one, other)", "bridge(one, other)", "bridge_into(state, pattern)"],
    "plain": ["pattern_of(heights)", "is_plain(heights)", "things_of(heights)", "turned(heights, count)",
              "least_turn(heights)", "unlike_count(thing_number, n)"],
    "cards": ["cards_of(heights)", "heights_of(cards)", "plain_count(thing_number, n)", "place(heights)",
              "heights_at(n, index)"],
    "numbered": ["leads(one, heights, other)", "plain_bridge_count(one, other, k)",
                 "plain_bridge_at(one, other, k, number)", "plain_bridge_number(one, other, heights)"],
    "texts": ["write_heights(heights)", "read_heights(text)"],
}


def defined_in(module, kind):
    tree = ast.parse((FOLDER / f"{module}.py").read_text(encoding="utf-8"))
    return [node for node in tree.body if isinstance(node, kind)]


def heads_of(body):
    return {f"{node.name}({ast.unparse(node.args)})" for node in body if isinstance(node, ast.FunctionDef)}


class LanguageTest(unittest.TestCase):
    def test_files(self):
        self.assertEqual([path.name for path in FILES if path.suffix != ".py"], [])
        self.assertIn(FOLDER / "__init__.py", FILES)

    def test_sizes_and_characters(self):
        for path in FILES:
            text = path.read_text(encoding="utf-8")
            lines = text.split("\n")
            self.assertLessEqual(len(lines) - 1, 399, path)
            self.assertLessEqual(max(len(line) for line in lines), 120, path)
            self.assertTrue(all(sign == "\n" or " " <= sign <= "~" for sign in text), path)

    def test_functions_are_short(self):
        for path in FILES:
            for node in ast.walk(ast.parse(path.read_text(encoding="utf-8"))):
                if isinstance(node, ast.FunctionDef):
                    self.assertLessEqual(node.end_lineno - node.lineno + 1, 40, (path, node.name))

    def test_imports_only_from_the_package(self):
        for path in FILES:
            for node in ast.walk(ast.parse(path.read_text(encoding="utf-8"))):
                self.assertNotIsInstance(node, ast.Import)
                if isinstance(node, ast.ImportFrom):
                    self.assertEqual((node.module.split(".")[0], node.level), ("throwskept", 0), path)

    def test_no_percent_sign_in_strings(self):
        for path in FILES:
            for node in ast.walk(ast.parse(path.read_text(encoding="utf-8"))):
                if isinstance(node, ast.Constant) and isinstance(node.value, str):
                    self.assertNotIn("%", node.value, path)

    def test_interface_is_defined_in_its_files(self):
        for module, names in CLASSES.items():
            defined = [node.name for node in defined_in(module, ast.ClassDef)]
            self.assertLessEqual(set(names), set(defined), module)
        for module, heads in FUNCTIONS.items():
            self.assertLessEqual(set(heads), heads_of(defined_in(module, ast.FunctionDef)), module)
        for (module, name), heads in METHODS.items():
            bodies = [node.body for node in defined_in(module, ast.ClassDef) if node.name == name]
            self.assertLessEqual(set(heads), heads_of(bodies[0]), (module, name))


if __name__ == "__main__":
    unittest.main()
