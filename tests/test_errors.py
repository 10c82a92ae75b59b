import unittest

from restalike import errors
from restalike.errors import (
    BadLine, BadNet, BadNumber, BadPair, BadText, BadTurn, BadWays, NoStep, NoTurn, RestError, Unlike)

FIELDS = {
    BadNet: ("part",), BadWays: ("part",), BadTurn: (), BadNumber: (), BadPair: (), Unlike: (), NoTurn: (),
    NoStep: (), BadText: (), BadLine: ("line", "word"),
}


class ErrorsTest(unittest.TestCase):

    def test_base_class(self):
        self.assertEqual(RestError.__bases__, (ValueError,))

    def test_direct_subclasses(self):
        self.assertEqual(set(RestError.__subclasses__()), set(FIELDS))
        for error in FIELDS:
            self.assertEqual(error.__bases__, (RestError,), error)

    def test_each_is_defined_in_its_file(self):
        for error in (RestError, *FIELDS):
            self.assertEqual(error.__module__, "restalike.errors")
            self.assertIs(getattr(errors, error.__name__), error)

    def test_fields_are_set_on_creation(self):
        for error, fields in FIELDS.items():
            by_position = error(*[f"worth of {field}" for field in fields])
            by_name = error(**{field: f"worth of {field}" for field in fields})
            self.assertEqual(vars(by_position), {field: f"worth of {field}" for field in fields}, error)
            self.assertEqual(vars(by_name), vars(by_position), error)

    def test_caught_by_base_class(self):
        for error, fields in FIELDS.items():
            with self.assertRaises(RestError):
                raise error(*fields)


if __name__ == "__main__":
    unittest.main()
