"""The errors: the rows of the interface for keeprows/errors.py, and what [2] says of them."""

import unittest

from keeprows import errors
from keeprows.errors import (
    InvalidArgument, InvalidNumber, InvalidPage, InvalidRow, InvalidSettings, InvalidText, LimitExceeded, StoreError,
)

from plain import strange_objects

ATTRIBUTES = [
    (InvalidSettings, "part"), (InvalidText, "line"), (InvalidRow, "row"), (InvalidPage, "page"),
    (InvalidNumber, "number"), (InvalidArgument, "part"), (LimitExceeded, "limit"),
]


class ErrorsTest(unittest.TestCase):

    def test_store_error_is_a_lookup_error(self):
        self.assertEqual(StoreError.__bases__, (LookupError,))

    def test_each_derives_directly_from_store_error(self):
        for error, _ in ATTRIBUTES:
            self.assertEqual(error.__bases__, (StoreError,))

    def test_each_stands_in_its_file(self):
        for error in [StoreError] + [error for error, _ in ATTRIBUTES]:
            self.assertEqual(error.__module__, "keeprows.errors")
            self.assertIs(getattr(errors, error.__name__), error)

    def test_each_is_constructed_from_its_attribute(self):
        for error, attribute in ATTRIBUTES:
            for told in strange_objects() + [-1, 0, 5, 10 ** 30]:
                self.assertIs(getattr(error(told), attribute), told)
                self.assertIs(getattr(error(**{attribute: told}), attribute), told)

    def test_each_is_raised_and_caught_as_a_store_error(self):
        for error, attribute in ATTRIBUTES:
            with self.assertRaises(StoreError) as caught:
                raise error("told")
            self.assertIs(type(caught.exception), error)
            self.assertEqual(getattr(caught.exception, attribute), "told")


if __name__ == "__main__":
    unittest.main()
