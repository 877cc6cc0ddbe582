"""The files of the package: what they define, and the limits of size and signs that they keep."""

import ast
import doctest
import inspect
import unittest
from importlib import import_module
from pathlib import Path

FOLDER = Path(__file__).resolve().parent.parent / "passingsums"

# What the interface lists, with the names of the arguments.
INTERFACE = {
    "errors": {
        "SumsError": None,
        "Unfit": None,
        "BadText": None,
        "Breaks": ["weaving"],
        "NoBreak": None,
        "Impossible": ["block"],
        "NoReader": ["given"],
        "BadEntry": ["place"],
        "TooMany": ["limit"],
    },
    "books": {
        "book_error": ["value"],
        "order_error": ["many", "value"],
        "plain_order": ["many"],
    },
    "booktexts": {
        "book_text": ["book"],
        "read_book": ["value"],
    },
    "shares": {
        "block_sums": ["book", "order", "deed"],
        "shares_of": ["book", "order", "deed"],
        "is_still": ["book", "order", "deed"],
    },
    "weavings": {
        "weaving_error": ["book", "order", "value"],
        "read_of": ["book", "order", "begin", "weaving"],
        "span_met": ["book", "order", "begin", "weaving"],
        "is_met": ["book", "order", "begin", "weaving", "value"],
    },
    "between": {
        "between_paper": ["book", "order"],
        "between_holds": ["book", "order", "value"],
        "breaks_between": ["book", "order", "value"],
    },
    "breaks": {
        "two_runs": ["book", "order"],
        "far_off": ["book", "order", "most"],
    },
    "met": {
        "met_paper": ["book", "order"],
        "met_holds": ["book", "order", "value"],
        "breaks_met": ["book", "order", "value"],
    },
    "pairs": {
        "point_shares": ["book", "order", "weights", "deed"],
        "point_read": ["book", "order", "weights", "begin", "weaving"],
        "points_met": ["book", "order", "weights", "begin", "weaving"],
        "in_hull": ["points", "point"],
        "hull_paper": ["book", "order", "weights"],
        "hull_holds": ["book", "order", "weights", "value"],
        "breaks_hull": ["book", "order", "weights", "value"],
    },
    "chains": {
        "is_good": ["book", "cells"],
        "right_orders": ["book"],
        "order_at": ["book", "value"],
        "order_number": ["book", "order"],
        "most_blocks": ["book"],
        "finest": ["book"],
        "every_order": ["book"],
        "kept_right": ["book", "order"],
    },
    "readers": {
        "more_read": ["book", "order", "steps"],
        "never_less": ["book", "order"],
        "never_back": ["book", "order"],
        "back_steps": ["book", "order"],
    },
    "records": {
        "record_error": ["book", "order", "value"],
        "earliest": ["book", "order", "record"],
        "latest": ["book", "order", "record"],
        "placings": ["book", "order", "record"],
        "placing_at": ["book", "order", "record", "value"],
        "placing_number": ["book", "order", "record", "value"],
        "met_word": ["book", "order", "record"],
        "between_word": ["book", "order", "record"],
    },
    "halls": {
        "Hall": ["book", "begin"],
        "hall_behind": ["book", "begin", "log"],
    },
}

# The methods that the interface lists for Hall, with the names of their arguments behind self.
METHODS = {
    "__init__": ["book", "begin"],
    "do": ["deed"],
    "start": ["order"],
    "step": ["reader"],
    "read": ["reader"],
    "span": ["reader"],
    "record_of": ["reader"],
}


def package_files():
    return sorted(path for path in FOLDER.rglob("*") if path.is_file() and path.parent.name != "__pycache__")


class Interface(unittest.TestCase):
    def test_each_name_is_defined_in_its_file(self):
        for module, names in INTERFACE.items():
            tree = ast.parse((FOLDER / (module + ".py")).read_text())
            defined = [node.name for node in tree.body if isinstance(node, (ast.FunctionDef, ast.ClassDef))]
            for name in names:
                self.assertEqual(defined.count(name), 1, name)

    def test_arguments(self):
        for module, names in INTERFACE.items():
            for name, wanted in names.items():
                if wanted is not None:
                    found = inspect.signature(getattr(import_module("passingsums." + module), name))
                    self.assertEqual(list(found.parameters), wanted, name)


    def test_methods_are_defined_in_the_class_itself(self):
        hall = import_module("passingsums.halls").Hall
        self.assertEqual(hall.__mro__, (hall, object))
        for name, wanted in METHODS.items():
            self.assertEqual(list(inspect.signature(vars(hall)[name]).parameters), ["self", *wanted], name)

    def test_attributes_are_set_when_a_hall_is_made(self):
        hall = import_module("passingsums.halls").Hall((1, ()), (3,))
        for name, value in (("cells", (3,)), ("total", 3), ("readers", 0), ("log", ())):
            self.assertEqual(getattr(hall, name), value)


class Readme(unittest.TestCase):
    def test_its_examples(self):
        failed, tried = doctest.testfile(str(FOLDER.parent / "README.md"), module_relative=False)
        self.assertGreater(tried, 0)
        self.assertEqual(failed, 0)


class Files(unittest.TestCase):
    def test_the_folder_holds_nothing_else(self):
        for path in package_files():
            self.assertEqual(path.suffix, ".py", path)

    def test_signs_and_lines(self):
        for path in package_files():
            text = path.read_bytes().decode("ascii")
            self.assertTrue(all(sign == "\n" or " " <= sign <= "~" for sign in text), path)
            lines = text.split("\n")
            self.assertLessEqual(len(lines) - 1, 399, path)
            self.assertLessEqual(max(len(line) for line in lines), 120, path)

    def test_functions_are_small(self):
        for path in package_files():
            for node in ast.walk(ast.parse(path.read_text())):
                if isinstance(node, ast.FunctionDef):
                    self.assertLessEqual(node.end_lineno - node.lineno + 1, 40, node.name)

    def test_imports_come_from_the_package(self):
        for path in package_files():
            for node in ast.walk(ast.parse(path.read_text())):
                self.assertNotIsInstance(node, ast.Import, path)
                if isinstance(node, ast.ImportFrom) and node.module == "math":
                    for name in node.names:
                        self.assertIn((name.name, name.asname), [("gcd", None), ("factorial", None)], path)
                elif isinstance(node, ast.ImportFrom):
                    self.assertTrue(node.module.startswith("passingsums."), path)


if __name__ == "__main__":
    unittest.main()
