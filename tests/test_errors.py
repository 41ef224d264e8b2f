import unittest

from latinclose import errors
from latinclose.errors import SquareError, TooMany, Twice

PLAIN = ["NoSquare", "NoCell", "NoThing", "NoPart", "TooGreat", "NoText", "NoRow", "NoFigure", "NotWhole"]
REFUSALS = PLAIN + ["Twice", "TooMany"]


class TheRefusals(unittest.TestCase):
    def test_square_error_stands_under_value_error(self):
        self.assertEqual(SquareError.__bases__, (ValueError,))

    def test_each_stands_under_square_error_alone(self):
        self.assertEqual(len(REFUSALS), 11)
        for name in REFUSALS:
            with self.subTest(name):
                self.assertEqual(getattr(errors, name).__bases__, (SquareError,))

    def test_none_stands_under_another_one(self):
        for one in REFUSALS:
            for other in REFUSALS:
                if one != other:
                    with self.subTest(one=one, other=other):
                        self.assertFalse(issubclass(getattr(errors, one), getattr(errors, other)))

    def test_each_is_raised_and_taken_by_its_own_name_and_by_those_above(self):
        for name in PLAIN:
            kind = getattr(errors, name)
            for taken_as in (kind, SquareError, ValueError):
                with self.subTest(name, taken_as=taken_as):
                    with self.assertRaises(taken_as):
                        raise kind()

    def test_twice_has_its_cell(self):
        told = Twice((3, 1))
        self.assertEqual(told.cell, (3, 1))
        self.assertIsInstance(told, SquareError)
        self.assertIsInstance(told, ValueError)
        self.assertEqual(Twice((0, 2)).cell, (0, 2))
        self.assertEqual(told.cell, (3, 1))
        self.assertEqual(Twice(cell=(1, 0)).cell, (1, 0))

    def test_too_many_has_its_most(self):
        told = TooMany(300)
        self.assertEqual(told.most, 300)
        self.assertIsInstance(told, SquareError)
        self.assertIsInstance(told, ValueError)
        self.assertEqual(TooMany(1).most, 1)
        self.assertEqual(told.most, 300)
        self.assertEqual(TooMany(most=7).most, 7)


if __name__ == "__main__":
    unittest.main()
