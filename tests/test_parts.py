import copy
import functools
import itertools
import unittest

from latinclose.errors import NoPart, NoSquare, SquareError
from latinclose.parts import parts, put_in
from latinclose.rings import rings
from samples import (
    TABLE_OF_TURNS, WITHOUT_PARTS_OF_TWO, all_squares, cells_of, cyclic, is_square, paired_table, squares,
)

# The greatest whole number that is handed in.
HUGE = 10 ** 60 - 1


def things_of(square, rows, columns):
    return sorted({square[row][column] for row in rows for column in columns})


@functools.cache
def plain_parts(square):
    """By a look through all rows and columns, also through more than half of them."""
    size = len(square)
    found = []
    for many in range(2, size):
        picks = list(itertools.combinations(range(size), many))
        for rows, columns in itertools.product(picks, repeat=2):
            if len(things_of(square, rows, columns)) == many:
                found.append((rows, columns))
    return found


def inner_of(square, rows, columns):
    """What stands in a part, by the numbers of its things."""
    things = things_of(square, rows, columns)
    return tuple(tuple(things.index(square[row][column]) for column in columns) for row in rows)


def plain_put_in(square, rows, columns, inner):
    things = things_of(square, rows, columns)
    changed = [list(line) for line in square]
    for i, j in cells_of(len(inner)):
        changed[rows[i]][columns[j]] = things[inner[i][j]]
    return tuple(tuple(line) for line in changed)


def many_of_rows(told, many):
    return len([rows for rows, columns in told if len(rows) == many])


class Parts(unittest.TestCase):
    def test_many_squares(self):
        met = set()
        for square in squares():
            kept = copy.deepcopy(square)
            told = parts(square)
            self.assertEqual(told, plain_parts(square))
            self.assertEqual(parts(square), told)
            self.assertEqual(square, kept)
            met.add((len(square), many_of_rows(told, 2), many_of_rows(told, 3)))
        self.assertLessEqual({(1, 0, 0), (2, 0, 0), (3, 0, 0), (4, 4, 0), (4, 12, 0), (5, 0, 0), (5, 4, 0)}, met)
        self.assertLessEqual({(6, 0, 4), (6, 9, 4), (6, 27, 4), (6, 5, 0)}, met)

    def test_what_a_part_is(self):
        for square in squares():
            told = parts(square)
            self.assertIs(told.__class__, list)
            self.assertEqual(told, sorted(set(told), key=lambda part: (len(part[0]), part)))
            for part in told:
                self.assertIs(part.__class__, tuple)
                self.assertEqual(len(part), 2)
                rows, columns = part
                self.assertEqual(len(rows), len(columns))
                self.assertTrue(2 <= len(rows) < len(square))
                self.assertLessEqual(2 * len(rows), len(square))
                self.assertEqual(len(things_of(square, rows, columns)), len(rows))
                for numbers in part:
                    self.assertIs(numbers.__class__, tuple)
                    self.assertEqual(list(numbers), sorted(set(numbers)))
                    for number in numbers:
                        self.assertIs(number.__class__, int)

    def test_tables(self):
        self.assertEqual(parts(((0,),)), [])
        self.assertEqual(parts(cyclic(2)), [])
        self.assertEqual(parts(cyclic(3)), [])
        self.assertEqual(parts(cyclic(5)), [])
        self.assertEqual(
            parts(cyclic(4)), [((0, 2), (0, 2)), ((0, 2), (1, 3)), ((1, 3), (0, 2)), ((1, 3), (1, 3))])
        told = parts(paired_table(4))
        self.assertEqual(len(told), 12)
        self.assertEqual(told[:3], [((0, 1), (0, 1)), ((0, 1), (2, 3)), ((0, 2), (0, 2))])
        told = parts(cyclic(6))
        self.assertEqual(len(told), 13)
        self.assertEqual(told[:2], [((0, 3), (0, 3)), ((0, 3), (1, 4))])
        self.assertEqual(told[9:], [
            ((0, 2, 4), (0, 2, 4)), ((0, 2, 4), (1, 3, 5)), ((1, 3, 5), (0, 2, 4)), ((1, 3, 5), (1, 3, 5))])
        self.assertEqual(len(parts(TABLE_OF_TURNS)), 31)
        self.assertEqual(len(parts(WITHOUT_PARTS_OF_TWO)), 4)

    def test_the_rings_of_two_are_the_parts_of_two_rows(self):
        for square in squares():
            found = []
            for one, other in itertools.combinations(range(len(square)), 2):
                for ring in rings(square, one, other):
                    if len(ring) == 2 and len(square) > 2:
                        found.append(((one, other), tuple(ring)))
            self.assertEqual([part for part in parts(square) if len(part[0]) == 2], sorted(found))

    def test_somewhat_greater_squares(self):
        self.assertEqual(parts(cyclic(7)), [])
        told = parts(paired_table(8))
        self.assertEqual(told, plain_parts(paired_table(8)))
        self.assertEqual((many_of_rows(told, 2), many_of_rows(told, 4)), (112, 28))

    def test_told_lists_are_the_askers_own(self):
        for square in (cyclic(1), cyclic(2), cyclic(4), cyclic(5), TABLE_OF_TURNS):
            told = parts(square)
            kept = list(told)
            told.append("more")
            told[0] = None
            self.assertEqual(parts(square), kept)


class PutIn(unittest.TestCase):
    def refused(self, error, *handed):
        kept = copy.deepcopy(handed)
        for again in range(2):
            with self.subTest(handed):
                with self.assertRaises(SquareError) as taken:
                    put_in(*handed)
                self.assertIs(taken.exception.__class__, error)
                self.assertIsInstance(taken.exception, ValueError)
        self.assertEqual(handed, kept)

    def no_part(self, square, rows, columns):
        # Also ahead of an inner square that is of another size.
        for inner in (cyclic(1), cyclic(2), cyclic(3), cyclic(6)):
            self.refused(NoPart, square, rows, columns, inner)

    def either(self, square, numbers, others):
        self.no_part(square, numbers, others)
        self.no_part(square, others, numbers)

    def test_each_square_in_each_part(self):
        met = set()
        for square in squares():
            for rows, columns in plain_parts(square):
                for inner in all_squares(len(rows)):
                    kept = copy.deepcopy((square, rows, columns, inner))
                    told = put_in(square, rows, columns, inner)
                    self.assertEqual(told, plain_put_in(square, rows, columns, inner))
                    self.assertTrue(is_square(told))
                    self.assertEqual(put_in(square, rows, columns, inner), told)
                    self.assertEqual(put_in(told, rows, columns, inner_of(square, rows, columns)), square)
                    self.assertEqual((square, rows, columns, inner), kept)
                    met.add((len(square), len(rows), told == square))
        expected = set(itertools.product(((4, 2), (5, 2), (6, 2), (6, 3)), (True, False)))
        self.assertEqual(met, {(size, many, same) for (size, many), same in expected})

    def test_told_ones(self):
        told = put_in(cyclic(4), (0, 2), (1, 3), ((1, 0), (0, 1)))
        self.assertEqual(told, ((0, 3, 2, 1), (1, 2, 3, 0), (2, 1, 0, 3), (3, 0, 1, 2)))
        self.assertEqual(put_in(cyclic(4), (0, 2), (1, 3), ((0, 1), (1, 0))), cyclic(4))
        told = put_in(cyclic(6), (1, 3, 5), (0, 2, 4), ((2, 1, 0), (1, 0, 2), (0, 2, 1)))
        self.assertEqual([told[row] for row in (0, 2, 4)], [cyclic(6)[row] for row in (0, 2, 4)])
        self.assertEqual([told[row] for row in (1, 3, 5)], [(5, 2, 3, 4, 1, 0), (3, 4, 1, 0, 5, 2), (1, 0, 5, 2, 3, 4)])

    def test_somewhat_greater_squares(self):
        square = paired_table(8)
        for rows, columns in parts(square)[::9]:
            inner = cyclic(len(rows))
            told = put_in(square, rows, columns, inner)
            self.assertEqual(told, plain_put_in(square, rows, columns, inner))
            self.assertTrue(is_square(told))

    def test_all_picks_that_are_no_part_are_refused(self):
        for square in (cyclic(1), cyclic(2), cyclic(3), cyclic(4), paired_table(4), cyclic(5)) + squares()[-5:]:
            size = len(square)
            picks = [pick for many in range(size + 1) for pick in itertools.combinations(range(size), many)]
            for rows, columns in list(itertools.product(picks, repeat=2))[::1 if size < 6 else 7]:
                if (rows, columns) not in plain_parts(square):
                    self.refused(NoPart, square, rows, columns, cyclic(max(len(rows), 1)))

    def test_all_pairs_and_triples_of_numbers_some_beyond_the_square(self):
        for many, square in ((2, cyclic(4)), (2, paired_table(4)), (3, cyclic(6))):
            size = len(square)
            tuples = list(itertools.product(range(-2, size + 2) if many == 2 else range(-1, 5), repeat=many))
            inner = cyclic(many)
            for rows in tuples:
                for columns in ((0, 2), (1, 3)) if many == 2 else ((0, 2, 4), (1, 3, 5)):
                    for part in ((rows, columns), (columns, rows)):
                        if part in plain_parts(square):
                            self.assertEqual(put_in(square, *part, inner), plain_put_in(square, *part, inner))
                        else:
                            self.refused(NoPart, square, *part, inner)

    def test_unlike_many_numbers(self):
        self.either(cyclic(4), (0, 2), (0, 1, 2))
        self.either(cyclic(4), (0, 2), (0,))
        self.either(cyclic(4), (0, 2), ())
        self.either(cyclic(4), (0, 2), (0, 1, 2, 3))
        self.either(cyclic(6), (0, 2, 4), (0, 2))
        self.either(cyclic(6), (0, 2, 4), (0, 1, 2, 4))

    def test_not_rising(self):
        self.either(cyclic(4), (2, 0), (0, 2))
        self.either(cyclic(6), (0, 4, 2), (0, 2, 4))
        self.either(cyclic(6), (4, 2, 0), (4, 2, 0))

    def test_one_twice(self):
        self.either(cyclic(4), (0, 0), (0, 2))
        self.either(cyclic(4), (2, 2), (1, 1))
        self.either(cyclic(4), (0, 2, 2), (0, 0, 2))
        self.either(cyclic(6), (0, 2, 2), (0, 2, 4))

    def test_one_alone_and_none(self):
        for size in range(1, 7):
            self.either(cyclic(size), (), ())
            for row, column in cells_of(size):
                self.no_part(cyclic(size), (row,), (column,))

    def test_all_of_them(self):
        for size in range(1, 7):
            everything = tuple(range(size))
            self.no_part(cyclic(size), everything, everything)
            self.refused(NoPart, cyclic(size), everything, everything, cyclic(size))

    def test_one_below_nought(self):
        self.either(cyclic(4), (-2, 0), (0, 2))
        self.either(cyclic(4), (-4, -2), (0, 2))
        self.either(cyclic(4), (-3, -1), (-3, -1))
        self.either(cyclic(6), (-2, 0, 2), (0, 2, 4))
        self.either(cyclic(4), (-HUGE, 2), (0, 2))

    def test_one_that_is_not_there(self):
        self.either(cyclic(4), (2, 4), (0, 2))
        self.either(cyclic(4), (0, HUGE), (0, 2))
        self.either(cyclic(6), (2, 4, 6), (0, 2, 4))
        self.either(cyclic(1), (0, 1), (0, 1))

    def test_too_many_things(self):
        self.either(cyclic(4), (0, 1), (0, 2))
        self.either(cyclic(4), (0, 1), (0, 1))
        self.either(cyclic(4), (0, 1, 2), (0, 1, 2))
        self.either(cyclic(6), (0, 2, 3), (0, 2, 4))
        self.either(cyclic(6), (0, 1, 2, 3, 4), (0, 1, 2, 3, 4))

    def test_an_inner_square_of_another_size(self):
        for square in squares():
            for rows, columns in plain_parts(square):
                for size in range(1, 7):
                    if size != len(rows):
                        self.refused(NoSquare, square, rows, columns, cyclic(size))


if __name__ == "__main__":
    unittest.main()
