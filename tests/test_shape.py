"""The shape of the package: where its interface stands, and what its files keep to."""

import ast
import builtins
import pathlib
import unittest

FOLDER = pathlib.Path(__file__).resolve().parent.parent / "kincalls"
INTERFACE = {
    "families": ("is_family", "is_plain", "couples", "rows"),
    "steps": ("is_straight", "chain", "turned"),
    "speeches": ("is_speech", "word_of", "called", "who"),
    "sure": ("unsure", "paper", "is_paper"),
    "pairs": ("unlike", "answers", "answering"),
    "houses": (),
    "texts": ("speech_text", "family_text", "read_speech", "read_family"),
}
HOUSE = {
    "born": "self, name, sex, father=None, mother=None", "found": "self, name, parent",
    "speak": "self, speech", "undo": "self", "family": "self", "speech": "self",
    "called": "self, one, other", "who": "self, one, word", "plain": "self", "twin": "self",
    "__len__": "self", "__init__": "self, speech",
}
ALLOWED = {
    "len", "range", "enumerate", "zip", "min", "max", "sum", "abs", "sorted", "reversed", "int",
    "str", "bool", "bytes", "list", "tuple", "dict", "set", "isinstance", "ord", "repr", "any",
    "all", "divmod", "ValueError",
}


def files():
    return sorted(FOLDER.glob("*.py"))


class Shape(unittest.TestCase):
    def test_the_interface_is_defined_where_it_is_listed(self):
        for name, expected in INTERFACE.items():
            tree = ast.parse((FOLDER / (name + ".py")).read_text())
            defined = {node.name for node in tree.body if isinstance(node, ast.FunctionDef)}
            self.assertLessEqual(set(expected), defined)

    def test_the_methods_of_a_house_are_defined_in_its_class(self):
        tree = ast.parse((FOLDER / "houses.py").read_text())
        house, = [node for node in tree.body if isinstance(node, ast.ClassDef) and node.name == "House"]
        self.assertEqual(house.bases, [])
        defined = {node.name: ast.unparse(node.args) for node in house.body if isinstance(node, ast.FunctionDef)}
        self.assertEqual({name: defined.get(name) for name in HOUSE}, HOUSE)

    def test_lines_and_files_and_functions_are_short_and_ascii(self):
        for path in files():
            text = path.read_bytes()
            self.assertTrue(all(sign == 10 or 32 <= sign <= 126 for sign in text), path)
            lines = text.split(b"\n")
            self.assertLessEqual(len(lines), 399)
            self.assertLessEqual(max(map(len, lines)), 120)
            for node in ast.walk(ast.parse(text)):
                if isinstance(node, ast.FunctionDef):
                    self.assertLessEqual(node.end_lineno - node.lineno + 1, 40, node.name)

    def test_imports_are_from_the_file_that_defines_the_name(self):
        for path in files():
            for node in ast.walk(ast.parse(path.read_text())):
                self.assertNotIsInstance(node, ast.Import)
                if isinstance(node, ast.ImportFrom):
                    package, _, name = node.module.partition(".")
                    self.assertEqual((package, node.level), ("kincalls", 0))
                    source = ast.parse((FOLDER / (name + ".py")).read_text())
                    bound = set()
                    for there in source.body:
                        if isinstance(there, (ast.FunctionDef, ast.ClassDef)):
                            bound.add(there.name)
                        elif isinstance(there, ast.Assign):
                            bound.add(there.targets[0].id)
                    self.assertLessEqual({alias.name for alias in node.names}, bound)

    def test_no_builtin_is_used_or_named_anew_but_those_allowed(self):
        for path in files():
            for node in ast.walk(ast.parse(path.read_text())):
                if isinstance(node, ast.Name) and hasattr(builtins, node.id):
                    self.assertIn(node.id, ALLOWED)
                    self.assertIsInstance(node.ctx, ast.Load)
                if isinstance(node, ast.arg):
                    self.assertFalse(hasattr(builtins, node.arg), node.arg)

    def test_the_folder_holds_its_files_alone(self):
        others = [path.name for path in FOLDER.iterdir() if path.suffix != ".py"]
        self.assertLessEqual(set(others), {"__pycache__"})
