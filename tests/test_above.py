import copy
import itertools
import unittest

from latinclose.above import closed_from, further, row_filled, row_lacking
from samples import Numbers, all_squares, begun_squares, cyclic, empty, fitting, is_begun, is_square, replaced


def rows_from_above():
    """Sizes with lists of rows: all beginnings of all small squares, and of some greater ones."""
    numbers = Numbers(11)
    found = []
    for size in range(1, 7):
        squares = [cyclic(size)] + [numbers.square(size) for turn in range(25)]
        if size < 5:
            squares += all_squares(size)
        for square in squares:
            for many in range(size + 1):
                found.append((size, list(square[:many])))
    return found


class RowsFromAbove(unittest.TestCase):
    def goes_on(self, size, rows):
        kept = copy.deepcopy(rows)
        row = further(size, rows)
        self.assertEqual(rows, kept)
        self.assertIsInstance(row, tuple)
        self.assertEqual(sorted(row), list(range(size)))
        for column, thing in enumerate(row):
            self.assertNotIn(thing, [above[column] for above in rows])
        self.assertEqual(further(size, rows), row)
        return row

    def closes(self, size, rows):
        kept = copy.deepcopy(rows)
        square = closed_from(size, rows)
        self.assertEqual(rows, kept)
        self.assertTrue(is_square(square), square)
        self.assertEqual(len(square), size)
        self.assertEqual(list(square[:len(rows)]), rows)
        self.assertEqual(closed_from(size, rows), square)
        return square

    def test_a_further_row(self):
        for size, rows in rows_from_above():
            if len(rows) < size:
                self.goes_on(size, rows)

    def test_closed(self):
        for size, rows in rows_from_above():
            self.closes(size, rows)

    def test_going_on_from_none_comes_to_a_square(self):
        for size in range(1, 9):
            rows = []
            while len(rows) < size:
                rows.append(self.goes_on(size, rows))
            self.assertTrue(is_square(tuple(rows)))

    def test_going_on_from_any_rows_comes_to_a_square(self):
        for size, rows in rows_from_above()[::7]:
            rows = list(rows)
            while len(rows) < size:
                rows.append(self.goes_on(size, rows))
            self.assertTrue(is_square(tuple(rows)))

    def test_none_of_each_size(self):
        for size in range(1, 9):
            self.closes(size, [])

    def test_the_one_row_that_is_left(self):
        for size in range(1, 7):
            square = cyclic(size)
            self.assertEqual(further(size, list(square[:-1])), square[-1])
            self.assertEqual(closed_from(size, list(square[:-1])), square)

    def test_as_many_rows_as_the_size(self):
        for size in range(1, 7):
            square = cyclic(size)
            self.assertEqual(closed_from(size, list(square)), square)
            self.assertIsInstance(closed_from(size, list(square)), tuple)

    def test_what_is_handed_in_may_change_later(self):
        rows = [(0, 1, 2)]
        square = closed_from(3, rows)
        kept = copy.deepcopy(square)
        row = further(3, rows)
        rows.append(row)
        rows[0] = (2, 1, 0)
        self.assertEqual(square, kept)
        self.assertEqual(closed_from(3, [(0, 1, 2)]), kept)
        self.assertEqual(further(3, [(0, 1, 2)]), row)


class ARow(unittest.TestCase):
    def is_filled(self, begun, row, told):
        self.assertTrue(is_begun(told), told)
        self.assertEqual(len(told), len(begun))
        for which in range(len(begun)):
            if which != row:
                self.assertEqual(told[which], begun[which])
        for entry, thing in zip(begun[row], told[row]):
            if entry is not None:
                self.assertEqual(thing, entry)
        self.assertEqual(sorted(told[row]), list(range(len(begun))))

    def is_paper(self, begun, row, paper):
        self.assertIsInstance(paper, list)
        self.assertEqual(paper, sorted(set(paper)))
        for thing in paper:
            self.assertIn(thing, range(len(begun)))
            self.assertNotIn(thing, begun[row])
        cells = [
            column for column in range(len(begun))
            if begun[row][column] is None and any(is_begun(replaced(begun, row, column, thing)) for thing in paper)
        ]
        self.assertGreater(len(paper), len(cells))

    def holds(self, begun, row):
        kept = copy.deepcopy(begun)
        there_is = any(True for things in fitting(begun, row))
        told = row_filled(begun, row)
        paper = row_lacking(begun, row)
        if there_is:
            self.is_filled(begun, row, told)
            self.assertIsNone(paper)
        else:
            self.assertIsNone(told)
            self.is_paper(begun, row, paper)
        self.assertEqual(row_filled(begun, row), told)
        self.assertEqual(row_lacking(begun, row), paper)
        self.assertEqual(begun, kept)
        return there_is

    def test_an_empty_row(self):
        for size in range(1, 7):
            for row in range(size):
                self.assertTrue(self.holds(empty(size), row))
                square = cyclic(size)
                begun = square[:row] + ((None,) * size,) + square[row + 1:]
                self.assertEqual(row_filled(begun, row), square)
                self.assertIsNone(row_lacking(begun, row))

    def test_a_whole_row(self):
        for size in range(1, 7):
            for row in range(size):
                self.assertEqual(row_filled(cyclic(size), row), cyclic(size))
                self.assertIsNone(row_lacking(cyclic(size), row))
                begun = empty(size)[:row] + (tuple(range(size)),) + empty(size)[row + 1:]
                self.assertEqual(row_filled(begun, row), begun)
                self.assertIsNone(row_lacking(begun, row))

    def test_a_row_in_part(self):
        begun = ((0, None, None), (None, 2, None), (None, None, None))
        self.assertEqual(row_filled(begun, 0), ((0, 1, 2), (None, 2, None), (None, None, None)))
        self.assertIsNone(row_lacking(begun, 0))
        for row in range(3):
            self.assertTrue(self.holds(begun, row))

    def test_an_earlier_pick_is_changed(self):
        begun = (
            (None, None, None, None), (None, None, None, 0), (None, None, 0, 1), (None, 0, 1, 2),
        )
        self.assertEqual(row_filled(begun, 0)[0], (0, 1, 2, 3))
        self.assertIsNone(row_lacking(begun, 0))

    def test_a_cell_for_which_nothing_is_left(self):
        begun = ((None, 0), (1, None))
        for row in range(2):
            self.assertFalse(self.holds(begun, row))
        self.assertEqual(row_lacking(begun, 0), [1])
        self.assertEqual(row_lacking(begun, 1), [0])

    def test_a_thing_that_has_no_cell(self):
        begun = ((1, None, None), (None, 0, None), (None, None, 0))
        self.assertFalse(self.holds(begun, 0))
        self.assertEqual(row_lacking(begun, 0), [0])

    def test_two_things_for_one_cell(self):
        begun = (
            (None, None, None, 3), (0, 1, None, None), (1, 0, None, None), (None, None, None, None),
        )
        self.assertFalse(self.holds(begun, 0))
        self.assertEqual(row_lacking(begun, 0), [0, 1])

    def test_each_row_of_many_begun_squares(self):
        told = {True: 0, False: 0}
        for begun in begun_squares():
            for row in range(len(begun)):
                told[self.holds(begun, row)] += 1
        self.assertGreater(min(told.values()), 200)

    def test_rows_that_cannot_be_filled_of_each_size(self):
        found = {2: 0, 3: 0, 4: 0, 5: 0, 6: 0}
        for begun in begun_squares():
            for row in range(len(begun)):
                if row_filled(begun, row) is None:
                    found[len(begun)] += 1
        self.assertGreater(min(found.values()), 1)

    def test_told_papers_are_the_askers_own(self):
        begun = ((None, None, None, 3), (0, 1, None, None), (1, 0, None, None), (None, None, None, None))
        paper = row_lacking(begun, 0)
        paper.append(9)
        paper[0] = 7
        self.assertEqual(row_lacking(begun, 0), [0, 1])
        self.assertIsNone(row_filled(begun, 0))


if __name__ == "__main__":
    unittest.main()
