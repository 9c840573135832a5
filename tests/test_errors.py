"""Tests of [3]: the error classes."""

import unittest

from sheetworks import errors
from sheetworks.errors import (
    BadJournal, BadName, BadPlace, BadText, BlockCut, Fault, NoRoom, NothingThere, WorkError)

# Each class with its arguments by name.
MADE = [
    (BadPlace, {"at": 3}),
    (BadText, {"at": 96}),
    (Fault, {"at": 0}),
    (BadName, {"name": "a b"}),
    (BlockCut, {"sheet": 1, "row": 19, "column": 9}),
    (NoRoom, {"word": "sheets"}),
    (NothingThere, {"word": "group"}),
    (BadJournal, {"at": 7}),
]


class Errors(unittest.TestCase):
    def check_attributes(self, error, told):
        self.assertEqual({name: getattr(error, name) for name in told}, told)

    def test_made_by_position(self):
        for made, told in MADE:
            with self.subTest(made=made):
                self.check_attributes(made(*told.values()), told)

    def test_made_by_name(self):
        for made, told in MADE:
            with self.subTest(made=made):
                error = made(**told)
                self.check_attributes(error, told)
                self.assertEqual(vars(error), told)

    def test_attributes_are_those_of_each_object(self):
        first, second = BlockCut(0, 1, 2), BlockCut(3, 4, 5)
        self.assertEqual((first.sheet, first.row, first.column), (0, 1, 2))
        self.assertEqual((second.sheet, second.row, second.column), (3, 4, 5))

    def test_other_numbers_of_arguments(self):
        for made, told in MADE:
            with self.subTest(made=made):
                with self.assertRaises(TypeError):
                    made()
                with self.assertRaises(TypeError):
                    made(*told.values(), 1)

    def test_caught_by_its_own_class(self):
        for made, told in MADE:
            with self.subTest(made=made):
                with self.assertRaises(made) as caught:
                    raise made(*told.values())
                self.check_attributes(caught.exception, told)

    def test_caught_by_the_base_class(self):
        for made, told in MADE:
            with self.subTest(made=made):
                with self.assertRaises(WorkError) as caught:
                    raise made(*told.values())
                self.assertIs(caught.exception.__class__, made)
                self.check_attributes(caught.exception, told)

    def test_is_none_of_the_others(self):
        for made, told in MADE:
            error = made(*told.values())
            kinds = [other for other, _ in MADE if isinstance(error, other)]
            self.assertEqual(kinds, [made])

    def test_bases(self):
        self.assertEqual(WorkError.__bases__, (Exception,))
        self.assertIsInstance(WorkError(), WorkError)
        for made, _ in MADE:
            self.assertEqual(made.__bases__, (WorkError,))

    def test_there_are_nine(self):
        classes = [x for x in vars(errors).values() if isinstance(x, type)]
        self.assertEqual(set(classes), {WorkError} | {made for made, _ in MADE})
        self.assertEqual(len(classes), 9)


if __name__ == "__main__":
    unittest.main()
