import importlib
import inspect
import unittest

from errorplaces.desk import Desk
from errorplaces.kinds import Kinds
from errorplaces.records import RecordedScopes, Recorder
from errorplaces.scopes import Scopes
from errorplaces.tables import Table

FUNCTIONS = [
    ("trees", "is_tree", ["kinds", "thing"]),
    ("trees", "leaves", ["tree"]),
    ("trees", "part", ["kinds", "tree", "names"]),
    ("trees", "split", ["kinds", "tree", "names"]),
    ("handlers", "is_form", ["kinds", "thing"]),
    ("handlers", "is_stack", ["kinds", "thing"]),
    ("handlers", "addresses", ["kinds", "stack"]),
    ("running", "handled", ["kinds", "stack", "tree", "first"]),
    ("running", "passage", ["kinds", "stack", "tree"]),
    ("running", "way", ["kinds", "stack", "tree", "place"]),
    ("templates", "is_template", ["kinds", "thing"]),
    ("templates", "fill", ["kinds", "template", "tree"]),
    ("questions", "telling", ["one", "other"]),
    ("questions", "drops", ["kinds", "stack"]),
    ("questions", "idle", ["kinds", "stack"]),
    ("questions", "spare", ["kinds", "stack"]),
    ("questions", "added", ["kinds", "stack"]),
    ("texts", "show_tree", ["tree"]),
    ("texts", "show_template", ["template"]),
    ("texts", "show_form", ["form"]),
    ("texts", "show_stack", ["stack"]),
    ("texts", "read_tree", ["kinds", "text"]),
    ("texts", "read_stack", ["kinds", "text"]),
]
KINDS = ["__init__", "of", "order", "below", "above", "LIMIT", "__eq__", "__len__", "__repr__"]
TABLE = ["__init__", "kinds", "row", "rows", "then", "outcome", "__call__", "__eq__", "__len__", "__repr__"]
SCOPES = ["__init__", "LIMIT", "begin", "set_stack", "raise_in", "close", "collected", "outcomes", "open_scopes", "place_of",
          "destiny", "kind_of", "__len__"]
RECORDER = ["__init__", "keep", "calls"]
RECORDED = ["__init__", "begin", "set_stack", "raise_in", "close", "replayed"]
DESK = ["__init__", "say"]
METHODS = [
    (Table, "row", ["self", "names", "bare"]), (Table, "rows", ["self"]), (Table, "then", ["self", "others"]),
    (Table, "outcome", ["self", "tree"]), (Table, "__call__", ["self", "tree"]), (Table, "__init__", ["self", "kinds", "guards"]),
    (Scopes, "__init__", ["self", "kinds"]), (Scopes, "begin", ["self", "message", "guards", "parent"]),
    (Scopes, "set_stack", ["self", "scope", "guards"]), (Scopes, "raise_in", ["self", "scope", "names"]),
    (Scopes, "close", ["self", "scope"]), (Scopes, "collected", ["self", "scope"]), (Scopes, "place_of", ["self", "number"]),
    (Scopes, "destiny", ["self", "number"]), (Scopes, "kind_of", ["self", "number"]),
    (Recorder, "__init__", ["self"]), (Recorder, "keep", ["self", "word", "arguments"]), (RecordedScopes, "__init__", ["self", "kinds"]),
    (RecordedScopes, "begin", ["self", "message", "guards", "parent"]), (RecordedScopes, "set_stack", ["self", "scope", "guards"]),
    (RecordedScopes, "raise_in", ["self", "scope", "names"]), (RecordedScopes, "close", ["self", "scope"]),
    (RecordedScopes, "replayed", ["self", "stacks"]), (Desk, "__init__", ["self"]), (Desk, "say", ["self", "command"]),
]


class TestInterface(unittest.TestCase):

    def test_each_function_is_defined_in_its_file(self):
        for file, name, parameters in FUNCTIONS:
            with self.subTest(name):
                made = getattr(importlib.import_module("errorplaces." + file), name)
                self.assertTrue(inspect.isfunction(made))
                self.assertEqual((made.__module__, made.__name__), ("errorplaces." + file, name))
                self.assertEqual(list(inspect.signature(made).parameters), parameters)

    def test_what_yields(self):
        for file, name in (("trees", "leaves"), ("running", "passage")):
            self.assertTrue(inspect.isgeneratorfunction(getattr(importlib.import_module("errorplaces." + file), name)))
        self.assertTrue(inspect.isgeneratorfunction(Table.rows))

    def test_each_class_is_defined_in_its_file(self):
        for made, file in ((Kinds, "kinds"), (Table, "tables"), (Scopes, "scopes"), (Recorder, "records"), (RecordedScopes, "records"),
                           (Desk, "desk")):
            self.assertEqual(made.__module__, "errorplaces." + file)

    def test_each_class_has_all_its_methods_itself(self):
        for made, names in ((Kinds, KINDS), (Table, TABLE), (Scopes, SCOPES), (Recorder, RECORDER), (RecordedScopes, RECORDED), (Desk, DESK)):
            for name in names:
                self.assertIn(name, vars(made))
        self.assertIsInstance(vars(Kinds)["of"], classmethod)
        for made, name in ((Kinds, "order"), (Table, "kinds"), (Scopes, "outcomes"), (Scopes, "open_scopes"), (Recorder, "calls")):
            self.assertIsInstance(vars(made)[name], property)

    def test_recorded_scopes_are_a_recorder_and_scopes(self):
        self.assertEqual(set(RecordedScopes.__bases__), {Recorder, Scopes})
        self.assertFalse(issubclass(Recorder, Scopes) or issubclass(Scopes, Recorder))

    def test_parameters_of_methods(self):
        for made, name, parameters in METHODS:
            with self.subTest(name):
                self.assertEqual(list(inspect.signature(vars(made)[name]).parameters), parameters)

    def test_parameters_that_are_passed_by_keyword_only(self):
        handled = importlib.import_module("errorplaces.running").handled
        for made, name, default in ((handled, "first", 0), (Table.row, "bare", False), (Scopes.begin, "parent", None),
                                    (RecordedScopes.begin, "parent", None), (RecordedScopes.replayed, "stacks", None)):
            parameter = inspect.signature(made).parameters[name]
            self.assertEqual((parameter.kind, parameter.default), (inspect.Parameter.KEYWORD_ONLY, default))

    def test_each_table_has_all_that_is_listed(self):
        for made in (Kinds(), Kinds(io=()), Kinds.of([]), Kinds.of([("io", ())])):
            for name in ("of", "order", "below", "above", "LIMIT"):
                self.assertTrue(hasattr(made, name))

    def test_parameters_of_kinds(self):
        self.assertEqual(list(inspect.signature(Kinds.of).parameters), ["rows"])
        self.assertEqual(list(inspect.signature(Kinds().below).parameters), ["name"])
        self.assertEqual(list(inspect.signature(Kinds().above).parameters), ["name"])


if __name__ == "__main__":
    unittest.main()
