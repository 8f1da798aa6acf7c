"""The head of the interface: names, arguments and places as DOC.md writes them."""

import ast
import inspect
import pathlib
import unittest

from roomtold import errors, steps, trees

PLACES = {
    errors: ["RoomError", "BadSteps", "BadTree", "BadRooms", "BadPage", "BadNode", "BadClass", "BadSize", "BadArgument",
             "BadNumber", "BadSetting", "BadChange", "BadCommand", "BadText", "NothingLeft"],
    steps: ["Steps"],
    trees: ["Tree"],
}

# The arguments behind the object itself; a property has none.
METHODS = {
    steps.Steps: {
        "__init__": ["most", "bounds"], "bounds": None, "__len__": [], "__contains__": ["number"], "__iter__": [],
        "class_of": ["room"], "__call__": ["room"], "need": ["size"], "__or__": ["other"], "__eq__": ["other"],
    },
    trees.Tree: {
        "__init__": ["classes", "told"], "told": None, "__len__": [], "__getitem__": ["node"], "__iter__": [],
        "leaf": ["page"], "way": ["page"], "greater": ["node"], "missed": [], "is_upright": None, "mended": [],
        "with_told": ["node", "told"], "__eq__": ["other"],
    },
}
STATIC = {trees.Tree: {"flat": ["classes", "pages", "told"], "exact": ["steps", "rooms"]}}


class Interface(unittest.TestCase):
    def test_each_stands_in_the_file_under_which_it_is_listed(self):
        for module, names in PLACES.items():
            tree = ast.parse(pathlib.Path(module.__file__).read_text())
            defined = [row.name for row in tree.body if isinstance(row, (ast.ClassDef, ast.FunctionDef))]
            for name in names:
                self.assertIn(name, defined)
                self.assertEqual(getattr(module, name).__module__, module.__name__)

    def test_each_method_stands_in_its_class_with_its_arguments(self):
        for kind, methods in METHODS.items():
            for name, arguments in methods.items():
                method = vars(kind)[name]
                if arguments is None:
                    self.assertIsInstance(method, property, name)
                else:
                    self.assertEqual(list(inspect.signature(method).parameters)[1:], arguments, name)

    def test_static_methods(self):
        for kind, methods in STATIC.items():
            for name, arguments in methods.items():
                self.assertIsInstance(vars(kind)[name], staticmethod, name)
                self.assertEqual(list(inspect.signature(getattr(kind, name)).parameters), arguments, name)


if __name__ == "__main__":
    unittest.main()
