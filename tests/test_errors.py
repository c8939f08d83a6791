"""The interface of belfry/errors.py, and point 3 of what refusals stand under."""

import unittest

from belfry.errors import (
    BadLine,
    BadTree,
    BadWord,
    HouseError,
    Late,
    NoPlace,
    NoStretch,
    Twice,
    Unknown,
)

MADE = [
    (BadWord, (3,)),
    (NoPlace, ("no such place",)),
    (Late, ("too late",)),
    (Twice, ("told twice",)),
    (Unknown, ("not known",)),
    (NoStretch, ("no stretch",)),
    (BadLine, (4,)),
    (BadTree, (5, 6)),
]


class RefusalsTest(unittest.TestCase):
    def test_each_is_taken_by_the_base_and_by_value_error(self):
        for kind, parts in MADE:
            for taker in (kind, HouseError, ValueError):
                with self.subTest(kind=kind.__name__, taker=taker.__name__):
                    with self.assertRaises(taker):
                        raise kind(*parts)

    def test_none_is_taken_by_another_ones_class(self):
        for kind, parts in MADE:
            for other, _ in MADE:
                if other is not kind:
                    with self.subTest(kind=kind.__name__, other=other.__name__):
                        self.assertNotIsInstance(kind(*parts), other)

    def test_each_stands_under_the_base_alone(self):
        self.assertEqual(HouseError.__bases__, (ValueError,))
        for kind, _ in MADE:
            with self.subTest(kind=kind.__name__):
                self.assertEqual(kind.__bases__, (HouseError,))

    def test_the_base_is_no_refusal_of_its_own(self):
        for kind, _ in MADE:
            with self.subTest(kind=kind.__name__):
                self.assertNotIsInstance(HouseError("refused"), kind)


class KeptValuesTest(unittest.TestCase):
    def test_bad_word_and_bad_line_keep_at(self):
        for kind in (BadWord, BadLine):
            for at in (0, 1, 299):
                with self.subTest(kind=kind.__name__, at=at):
                    self.assertEqual(kind(at).at, at)

    def test_bad_tree_keeps_row_then_at(self):
        for row, at in ((0, 0), (2, 7), (7, 2), (0, 5), (5, 0)):
            with self.subTest(row=row, at=at):
                error = BadTree(row, at)
                self.assertEqual((error.row, error.at), (row, at))

    def test_what_is_raised_keeps_its_values(self):
        with self.assertRaises(HouseError) as caught:
            raise BadTree(8, 9)
        self.assertEqual((caught.exception.row, caught.exception.at), (8, 9))

    def test_each_object_keeps_its_own(self):
        for kind in (BadWord, BadLine):
            with self.subTest(kind=kind.__name__):
                one = kind(1)
                other = kind(2)
                self.assertEqual((one.at, other.at), (1, 2))
        one = BadTree(1, 2)
        other = BadTree(3, 4)
        self.assertEqual((one.row, one.at, other.row, other.at), (1, 2, 3, 4))


if __name__ == "__main__":
    unittest.main()
