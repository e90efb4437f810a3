import unittest

from errorplaces import errors
from samples import UNLIKE

TABLE = [
    ("NoName", ValueError, "name"),
    ("NoBases", ValueError, "bases"),
    ("NoRows", TypeError, "value"),
    ("NoKind", KeyError, "name"),
    ("NoTree", TypeError, "tree"),
    ("NoStack", TypeError, "stack"),
    ("NoTemplate", TypeError, "template"),
    ("NoNumber", ArithmeticError, "number"),
    ("NoPlace", IndexError, "place"),
    ("NoNames", ValueError, "names"),
    ("Unlike", RuntimeError, None),
    ("NoMessage", ValueError, "message"),
    ("NoScope", LookupError, "scope"),
    ("Closed", RuntimeError, "scope"),
    ("NoError", LookupError, "number"),
    ("TooMany", OverflowError, "limit"),
    ("NoText", ValueError, "text"),
    ("NoCommand", ValueError, "command"),
    ("NoKinds", LookupError, None),
]
WITH_FIELD = [(name, field) for name, _, field in TABLE if field is not None]


class TestErrors(unittest.TestCase):

    def test_each_class_derives_directly_from_its_base(self):
        for name, base, _ in TABLE:
            with self.subTest(name):
                self.assertEqual(getattr(errors, name).__bases__, (base,))

    def test_each_class_is_defined_in_the_module(self):
        for name, _, _ in TABLE:
            with self.subTest(name):
                made = getattr(errors, name)
                self.assertEqual((made.__module__, made.__name__), ("errorplaces.errors", name))

    def test_the_classes_are_different_ones(self):
        self.assertEqual(len({getattr(errors, name) for name, _, _ in TABLE}), len(TABLE))

    def test_the_field_is_passed_by_position(self):
        for name, field in WITH_FIELD:
            for value in UNLIKE:
                with self.subTest(name):
                    kept = getattr(getattr(errors, name)(value), field)
                    self.assertEqual((kept, type(kept)), (value, type(value)))

    def test_the_field_is_passed_by_name(self):
        for name, field in WITH_FIELD:
            for value in UNLIKE:
                with self.subTest(name):
                    kept = getattr(getattr(errors, name)(**{field: value}), field)
                    self.assertEqual((kept, type(kept)), (value, type(value)))

    def test_an_error_without_a_field_is_made_without_arguments(self):
        for name in ("Unlike", "NoKinds"):
            made = getattr(errors, name)
            with self.subTest(name), self.assertRaises(made):
                raise made()

    def test_each_error_can_be_raised_and_caught(self):
        for name, base, field in TABLE:
            if field is not None:
                with self.subTest(name), self.assertRaises(base) as caught:
                    raise getattr(errors, name)(["x", (1,)])
                self.assertEqual(getattr(caught.exception, field), ["x", (1,)])

    def test_an_error_copies_its_argument(self):
        for name, field in WITH_FIELD:
            with self.subTest(name):
                inner = ["io"]
                value = [1, (inner, 2)]
                error = getattr(errors, name)(value)
                inner.append("net")
                value.append(3)
                self.assertEqual(getattr(error, field), [1, (["io"], 2)])

    def test_arguments_are_unchanged(self):
        for name, _ in WITH_FIELD:
            value = [1, (["io"], 2)]
            getattr(errors, name)(value)
            self.assertEqual(value, [1, (["io"], 2)])

    def test_two_errors_have_fields_of_their_own(self):
        for name, field in WITH_FIELD:
            one, other = getattr(errors, name)("one"), getattr(errors, name)("other")
            self.assertEqual((getattr(one, field), getattr(other, field)), ("one", "other"))


if __name__ == "__main__":
    unittest.main()
