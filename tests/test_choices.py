import copy
import unittest

from latinclose.choices import first_choice
from samples import (
    begun_squares, cells_of, cyclic, empty, is_begun, is_square, plain_choices, plain_first_choice, replaced, with_put,
)


class TheFirstChoice(unittest.TestCase):
    def holds(self, begun):
        kept = copy.deepcopy(begun)
        told = first_choice(begun)
        self.assertEqual(told, plain_first_choice(begun))
        self.assertIsInstance(told, tuple)
        self.assertIsInstance(told[0], tuple)
        self.assertIsInstance(told[1], list)
        self.assertEqual(told[1], sorted(set(told[1])))
        self.assertEqual(first_choice(begun), told)
        self.assertEqual(begun, kept)
        for number in told[1]:
            self.assertTrue(is_begun(with_put(begun, told[0], number)))

    def test_many_begun_squares(self):
        met = {}
        for begun in begun_squares():
            if not is_square(begun):
                self.holds(begun)
                choice, numbers = first_choice(begun)
                met[(choice[0], min(len(numbers), 2))] = True
        for name in ("cell", "row", "column"):
            for many in (0, 1):
                self.assertIn((name, many), met)
        self.assertIn(("cell", 2), met)

    def test_in_an_empty_square_the_first_cell(self):
        for size in range(1, 9):
            self.assertEqual(first_choice(empty(size)), (("cell", 0, 0), list(range(size))))

    def test_a_single_empty_cell(self):
        for size in range(1, 7):
            for row, column in cells_of(size):
                begun = replaced(cyclic(size), row, column, None)
                self.assertEqual(first_choice(begun), (("cell", row, column), [(row + column) % size]))

    def test_the_fewest_left_goes_first(self):
        begun = ((None, None, None, None), (None, None, None, None), (None, None, None, None), (None, None, None, 3))
        self.assertEqual(first_choice(begun), (("cell", 0, 3), [0, 1, 2]))
        begun = ((None, None, None, None), (None, None, None, None), (None, None, 2, 3), (None, None, None, None))
        self.assertEqual(first_choice(begun), (("cell", 2, 0), [0, 1]))

    def test_a_cell_with_none_left(self):
        self.assertEqual(first_choice(((None, 0), (1, None))), (("cell", 0, 0), []))
        begun = ((None, None, None), (None, 0, None), (1, None, 2))
        self.assertEqual(first_choice(begun), (("cell", 2, 1), []))

    def test_none_left_goes_ahead_of_one_left(self):
        begun = ((0, 1, None, None), (None, None, None, None), (None, None, None, 2), (None, None, None, 3))
        self.assertEqual(plain_first_choice(replaced(begun, 3, 3, None)), (("cell", 0, 3), [3]))
        self.assertEqual(first_choice(replaced(begun, 3, 3, None)), (("cell", 0, 3), [3]))
        self.assertEqual(first_choice(begun), (("cell", 0, 3), []))

    def test_a_row_with_none_left(self):
        begun = ((1, None, None, None), (None, 0, None, None), (None, None, 0, None), (2, None, None, 0))
        self.assertEqual(first_choice(begun), (("row", 0, 0), []))
        begun = ((1, None, 2, None), (None, 0, None, None), (None, None, None, None), (None, None, None, 0))
        self.assertEqual(first_choice(begun), (("row", 0, 0), []))

    def test_a_column_with_none_left(self):
        begun = ((1, None, None, None), (None, 0, None, None), (None, None, 0, None), (2, None, None, None))
        self.assertEqual(first_choice(begun), (("column", 0, 0), []))

    def test_a_row_with_one_left(self):
        begun = ((None, None, None, None), (0, None, None, None), (None, 0, None, None), (None, None, 0, None))
        self.assertEqual(first_choice(begun), (("row", 0, 0), [3]))

    def test_a_column_with_one_left(self):
        begun = (
            (None, 0, None, None, None), (1, None, None, None, None), (2, None, None, None, None),
            (None, None, None, None, None), (None, None, 0, None, None),
        )
        self.assertEqual(first_choice(begun), (("column", 0, 0), [3]))

    def test_of_as_many_a_cell_goes_ahead_of_a_row_and_a_row_ahead_of_a_column(self):
        begun = ((1, None, None), (None, 0, None), (None, None, 0))
        left = dict(plain_choices(begun))
        self.assertEqual((left[("row", 0, 0)], left[("column", 0, 0)]), ([], []))
        self.assertEqual(first_choice(begun), (("row", 0, 0), []))
        begun = ((None, 0), (1, None))
        left = dict(plain_choices(begun))
        self.assertEqual((left[("cell", 0, 0)], left[("row", 0, 1)], left[("column", 0, 0)]), ([], [], []))
        self.assertEqual(first_choice(begun), (("cell", 0, 0), []))
        begun = replaced(cyclic(5), 3, 4, None)
        self.assertEqual(len([numbers for choice, numbers in plain_choices(begun) if len(numbers) == 1]), 3)
        self.assertEqual(first_choice(begun), (("cell", 3, 4), [2]))

    def test_of_as_many_of_a_kind_the_lesser_numbers_go_ahead(self):
        begun = replaced(replaced(cyclic(4), 2, 1, None), 1, 3, None)
        self.assertEqual(first_choice(begun), (("cell", 1, 3), [0]))
        begun = replaced(replaced(cyclic(4), 2, 3, None), 2, 1, None)
        self.assertEqual(first_choice(begun), (("cell", 2, 1), [3]))
        begun = (
            (2, None, None, None, None), (None, 0, 1, None, None), (None, 1, 0, None, None),
            (3, None, None, None, None), (None, None, None, 0, 1),
        )
        left = dict(plain_choices(begun))
        self.assertEqual((left[("column", 0, 0)], left[("column", 0, 1)]), ([], []))
        self.assertEqual(first_choice(begun), (("column", 0, 0), []))
        turned = tuple(zip(*begun))
        left = dict(plain_choices(turned))
        self.assertEqual((left[("row", 0, 0)], left[("row", 0, 1)]), ([], []))
        self.assertEqual(first_choice(turned), (("row", 0, 0), []))

    def test_told_lists_are_the_askers_own(self):
        begun = ((None, 1, None), (None, None, None), (None, None, None))
        choice, numbers = first_choice(begun)
        kept = list(numbers)
        numbers.append(9)
        numbers[0] = 7
        self.assertEqual(first_choice(begun), (choice, kept))


if __name__ == "__main__":
    unittest.main()
