"""The form of the package: its files, and the names and parameters of the interface in the modules told for them."""

import ast
import doctest
import importlib
import inspect
import pathlib
import unittest

FOLDER = pathlib.Path(__file__).resolve().parent.parent / "textbehind"
CLASSES = {
    "errors": ["BehindError", "InvalidText", "InvalidSize", "InvalidManner", "InvalidWord", "InvalidEntry",
               "InvalidThing", "InvalidThings", "InvalidRow", "InvalidPlace", "InvalidCount", "Impossible",
               "NothingToUndo", "Unreadable", "InvalidCommand", "NotReady", "WrongRow", "Contradiction", "Needless"],
    "live": ["Sheet", "LeanSheet"],
    "console": ["Console"],
}
METHODS = {
    "Sheet": {"__init__": "self size", "__call__": "self thing", "things": "self", "can_be": "self manner entry",
              "follows": "self thing", "plainest": "self", "undo": "self", "__len__": "self", "__eq__": "self other"},
    "LeanSheet": {"__init__": "self size", "__call__": "self thing", "__eq__": "self other"},
    "Console": {"__init__": "self", "say": "self command"},
}
FUNCTIONS = {
    "texts": {"room": "size entry", "entries": "size word", "agreement": "text manner entry",
              "table": "text manner word", "plain": "text manner", "is_true": "text thing",
              "first_false": "text things", "told": "size manner word row"},
    "lists": {"is_possible": "size things", "freest": "size things", "classes": "size things",
              "apart": "size things", "can_be": "size things manner entry", "follows": "size things thing",
              "alike": "size things other", "first_different": "size things other", "halves": "size things",
              "thinned": "size things", "clashes": "size things", "struck": "size things"},
    "papers": {"refusal": "size things *most", "judge": "size things paper *most"},
    "letters": {"fewest": "size things", "plainest": "size things", "ways": "size things",
                "texts_with": "size things count"},
    "complete": {"first_wrong": "word row", "bars": "word row", "fewest_for": "word row", "plainest_for": "word row",
                 "texts_over": "word row count", "ends": "fronts", "fronts_of": "ends_row", "next_ends": "ends_row",
                 "count_ends": "size *most", "beginning": "fronts length", "written": "fronts times place",
                 "hungry": "count"},
    "counts": {"tables": "size manner word", "telling": "text manner words"},
    "words": {"show_thing": "thing", "show_list": "things", "show_row": "row", "read_thing": "line",
              "read_list": "lines", "read_row": "line"},
}


def files():
    return sorted(path for path in FOLDER.iterdir() if path.name != "__pycache__")


class FormTest(unittest.TestCase):
    def test_the_folder_has_python_files_alone(self):
        self.assertIn("__init__.py", [path.name for path in files()])
        for path in files():
            self.assertTrue(path.is_file() and path.suffix == ".py", path)

    def test_sizes_and_characters(self):
        for path in files():
            rows = path.read_bytes().decode("ascii").split("\n")
            self.assertLess(len(rows), 400, path)
            self.assertLessEqual(max(len(row) for row in rows), 120, path)
            self.assertEqual([row for row in rows if not all(" " <= sign <= "~" for sign in row)], [], path)
            for node in ast.walk(ast.parse("\n".join(rows))):
                if isinstance(node, ast.FunctionDef):
                    self.assertLessEqual(node.end_lineno - node.lineno + 1, 40, node.name)

    def test_imports_are_of_the_package(self):
        for path in files():
            for node in ast.walk(ast.parse(path.read_text())):
                self.assertNotIsInstance(node, ast.Import, path)
                if isinstance(node, ast.ImportFrom):
                    inside = node.level == 0 and node.module.split(".")[0] == "textbehind"
                    self.assertTrue(inside or node.module in ("itertools", "math", "heapq"), (path, node.module))

    def test_the_interface_stands_where_it_is_told(self):
        for module, names in list(CLASSES.items()) + list(FUNCTIONS.items()):
            tree = ast.parse((FOLDER / f"{module}.py").read_text())
            defined = [node.name for node in tree.body if isinstance(node, (ast.FunctionDef, ast.ClassDef))]
            self.assertEqual([name for name in names if name not in defined], [], module)

    def test_each_method_stands_in_its_own_class(self):
        for module in ("live", "console"):
            for node in ast.parse((FOLDER / f"{module}.py").read_text()).body:
                if isinstance(node, ast.ClassDef):
                    found = {row.name: " ".join(parameter.arg for parameter in row.args.args)
                             for row in node.body if isinstance(row, ast.FunctionDef)}
                    self.assertEqual(found, METHODS[node.name])

    def test_things_is_a_property_and_size_an_attribute(self):
        live = importlib.import_module("textbehind.live")
        for kind in (live.Sheet, live.LeanSheet):
            self.assertIsInstance(inspect.getattr_static(kind, "things"), property)
            self.assertIn("size", vars(kind(3)))

    def test_what_the_language_bars_beside_a_class_that_compares(self):
        for path in files():
            for node in ast.walk(ast.parse(path.read_text())):
                self.assertNotIsInstance(node, ast.GeneratorExp, path)
                if isinstance(node, ast.Attribute):
                    self.assertNotEqual(node.attr, "sort", path)

    def test_the_rows_of_the_readme(self):
        found = doctest.testfile(str(FOLDER.parent / "README.md"), module_relative=False)
        self.assertGreater(found.attempted, 10)
        self.assertEqual(found.failed, 0)

    def test_parameters_have_the_names_of_the_interface(self):
        for module, functions in FUNCTIONS.items():
            for name, parameters in functions.items():
                function = getattr(importlib.import_module(f"textbehind.{module}"), name)
                found = list(inspect.signature(function).parameters.values())
                shown = [("*" if parameter.kind is parameter.KEYWORD_ONLY else "") + parameter.name
                         for parameter in found]
                self.assertEqual(shown, parameters.split(), name)
                for parameter in found:
                    if parameter.kind is parameter.KEYWORD_ONLY:
                        self.assertIsNone(parameter.default)
                    else:
                        self.assertEqual(parameter.kind, parameter.POSITIONAL_OR_KEYWORD)
                        self.assertIs(parameter.default, inspect.Parameter.empty)


if __name__ == "__main__":
    unittest.main()
