"""Points [4] and [11]: the errors."""

import unittest

from floorkeepers import errors
from tests.helper import Case, deep, odd_values

FIELDS = {"Wrong": ["place"], "NoText": ["line"], "CannotDo": ["index"], "CannotBe": ["index"], "TooMany": ["most"],
          "NotNested": [], "NotFit": [], "NoIndex": ["index"], "Broken": ["duty"], "NoDuty": ["duty"], "Nothing": [],
          "NoCommand": []}


class TestErrors(Case):

    def made(self, name, value):
        return getattr(errors, name)(*[value for _ in FIELDS[name]])

    def test_kinds(self):
        self.assertTrue(issubclass(errors.FloorError, ValueError))
        self.assertEqual(errors.FloorError.__bases__, (ValueError,))
        for name in FIELDS:
            kind = getattr(errors, name)
            self.assertEqual(kind.__name__, name)
            self.assertEqual(kind.__module__, "floorkeepers.errors")
            self.assertTrue(issubclass(kind, errors.FloorError))

    def test_no_one_is_another_one(self):
        for name in FIELDS:
            for other in FIELDS:
                error = self.made(name, 0)
                self.assertEqual(isinstance(error, getattr(errors, other)), name == other, (name, other))
                self.assertIsInstance(error, errors.FloorError)
                self.assertIsInstance(error, ValueError)

    def test_only_these(self):
        kinds = [kind.__name__ for kind in errors.FloorError.__subclasses__() if kind.__module__ == errors.__name__]
        self.assertEqual(sorted(kinds), sorted(FIELDS))

    def test_fields_are_the_objects_themselves(self):
        values = odd_values() + [0, 1, 7, ("within", 0, 1), object(), deep(3), [[], {}], {"a": []}]
        for name, fields in FIELDS.items():
            for value in values:
                error = self.made(name, value)
                for field in fields:
                    self.assertIs(getattr(error, field), value)

    def test_what_is_changed_behind_an_error_is_changed_in_it(self):
        for name, fields in FIELDS.items():
            for field in fields:
                row, table = [1], {"a": [2]}
                held, also = self.made(name, row), self.made(name, table)
                row.append(3)
                table["a"].append(4)
                table["b"] = row
                self.same(getattr(held, field), [1, 3])
                self.same(getattr(also, field), {"a": [2, 4], "b": [1, 3]})
                self.assertIs(getattr(held, field), row)
                self.assertIs(getattr(also, field), table)

    def test_errors_share_nothing(self):
        for name, fields in FIELDS.items():
            for field in fields:
                one, other = self.made(name, 1), self.made(name, 2)
                self.same([getattr(one, field), getattr(other, field)], [1, 2])

    def test_raised_and_caught(self):
        for name, fields in FIELDS.items():
            value = ["x"]
            with self.assertRaises(errors.FloorError) as caught:
                raise self.made(name, value)
            for field in fields:
                self.assertIs(getattr(caught.exception, field), value)

    def test_errors_as_values_of_errors(self):
        inner = errors.Nothing()
        self.assertIs(errors.Wrong(inner).place, inner)


if __name__ == "__main__":
    unittest.main()
