import importlib
import inspect
import unittest

from errorplaces.kinds import Kinds

FUNCTIONS = [
    ("trees", "is_tree", ["kinds", "thing"]),
    ("trees", "leaves", ["tree"]),
    ("trees", "part", ["kinds", "tree", "names"]),
    ("trees", "split", ["kinds", "tree", "names"]),
    ("handlers", "is_form", ["kinds", "thing"]),
    ("handlers", "is_stack", ["kinds", "thing"]),
    ("handlers", "addresses", ["kinds", "stack"]),
]


class TestInterface(unittest.TestCase):

    def test_each_function_is_defined_in_its_file(self):
        for file, name, parameters in FUNCTIONS:
            with self.subTest(name):
                made = getattr(importlib.import_module("errorplaces." + file), name)
                self.assertTrue(inspect.isfunction(made))
                self.assertEqual((made.__module__, made.__name__), ("errorplaces." + file, name))
                self.assertEqual(list(inspect.signature(made).parameters), parameters)

    def test_leaves_yields(self):
        made = importlib.import_module("errorplaces.trees").leaves
        self.assertTrue(inspect.isgeneratorfunction(made))

    def test_kinds_is_defined_in_its_file(self):
        self.assertEqual((Kinds.__module__, Kinds.__name__), ("errorplaces.kinds", "Kinds"))

    def test_kinds_has_all_its_methods_itself(self):
        for name in ("__init__", "of", "order", "below", "above", "LIMIT", "__eq__", "__len__", "__repr__"):
            self.assertIn(name, vars(Kinds))
        self.assertIsInstance(vars(Kinds)["of"], classmethod)
        self.assertIsInstance(vars(Kinds)["order"], property)

    def test_each_table_has_all_that_is_listed(self):
        for made in (Kinds(), Kinds(io=()), Kinds.of([]), Kinds.of([("io", ())])):
            for name in ("of", "order", "below", "above", "LIMIT"):
                self.assertTrue(hasattr(made, name))

    def test_parameters_of_methods(self):
        self.assertEqual(list(inspect.signature(Kinds.of).parameters), ["rows"])
        self.assertEqual(list(inspect.signature(Kinds().below).parameters), ["name"])
        self.assertEqual(list(inspect.signature(Kinds().above).parameters), ["name"])


if __name__ == "__main__":
    unittest.main()
