"""The refusals of the interface."""

import unittest

from halvewright.errors import (
    HalveError, NoBreaks, NoMap, NoName, NoRow, NoText, NoTree, NoUndo, TooGreat, Twice,
)

FIELDS = {
    NoTree: "at", NoMap: "at", NoBreaks: "at", NoRow: "at", NoText: "at", NoUndo: "at",
    Twice: "name", NoName: "name", TooGreat: "row",
}


class TestErrors(unittest.TestCase):
    def test_any_refusal_is_a_value_error(self):
        self.assertTrue(issubclass(HalveError, ValueError))

    def test_each_is_a_refusal_and_none_of_the_others(self):
        for kind in FIELDS:
            made = kind("x") if FIELDS[kind] == "name" else kind(3)
            self.assertIsInstance(made, HalveError)
            self.assertIsInstance(made, ValueError)
            for other in FIELDS:
                self.assertEqual(isinstance(made, other), kind is other)

    def test_each_has_its_field_on_each_object(self):
        for kind, field in FIELDS.items():
            values = ("x", "other") if field == "name" else (0, 7)
            objects = [kind(value) for value in values]
            self.assertEqual([vars(made)[field] for made in objects], list(values))

    def test_each_is_raised_and_caught_by_its_name(self):
        for kind, field in FIELDS.items():
            value = "x" if field == "name" else 12
            with self.assertRaises(kind) as caught:
                raise kind(value)
            self.assertEqual(getattr(caught.exception, field), value)
            self.assertIn(str(value), str(caught.exception))


if __name__ == "__main__":
    unittest.main()
