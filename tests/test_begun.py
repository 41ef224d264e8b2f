import copy
import itertools
import unittest

from latinclose.begun import check, is_whole, left, put
from latinclose.errors import NoCell, NoSquare, NoThing, Twice


def cyclic(size):
    return tuple(tuple((row + column) % size for column in range(size)) for row in range(size))


def empty(size):
    return ((None,) * size,) * size


def with_holes(square, every):
    size = len(square)
    return tuple(
        tuple(None if (row * size + column) % every == 0 else square[row][column] for column in range(size))
        for row in range(size)
    )


def replaced(begun, row, column, entry):
    rows = [list(line) for line in begun]
    rows[row][column] = entry
    return tuple(tuple(line) for line in rows)


def first_twice(begun):
    """The first cell whose thing was met before in its row or column, or None."""
    met = set()
    for row, line in enumerate(begun):
        for column, thing in enumerate(line):
            if thing is not None:
                marks = {("row", row, thing), ("column", column, thing)}
                if marks & met:
                    return (row, column)
                met |= marks
    return None


class Unfriendly:
    def __eq__(self, other):
        raise RuntimeError("not to be asked")

    def __len__(self):
        raise RuntimeError("not to be asked")

    def __iter__(self):
        raise RuntimeError("not to be asked")

    def __bool__(self):
        raise RuntimeError("not to be asked")

    __hash__ = None


class LookedOver(unittest.TestCase):
    def refused(self, thing):
        with self.assertRaises(NoSquare):
            check(thing)

    def told_twice(self, begun, cell):
        with self.assertRaises(Twice) as taken:
            check(begun)
        self.assertEqual(taken.exception.cell, cell)
        self.assertIsInstance(taken.exception.cell, tuple)

    def test_squares_and_begun_squares_of_each_size(self):
        for size in range(1, 7):
            with self.subTest(size):
                self.assertIsNone(check(cyclic(size)))
                self.assertIsNone(check(empty(size)))
                for every in range(1, 6):
                    self.assertIsNone(check(with_holes(cyclic(size), every)))

    def test_each_thing_of_a_size_may_stand_in_each_cell(self):
        for size in range(1, 7):
            for row, column, thing in itertools.product(range(size), repeat=3):
                self.assertIsNone(check(replaced(empty(size), row, column, thing)))

    def test_things_of_other_kinds(self):
        things = [
            None, 0, 1, -1, True, False, 10 ** 60, 1.5, float("nan"), 2j, "", "0", "01\n10", b"0", bytearray(b"0"),
            [], {}, set(), frozenset(), range(1), iter(((0,),)), (row for row in ((0,),)), object(), int, tuple, len,
            {0: (0,)}, {(0,)}, lambda: None, ValueError(), Unfriendly(), NotImplemented, ...,
        ]
        for thing in things:
            with self.subTest(kind=str(thing.__class__)):
                self.refused(thing)

    def test_a_list_in_the_place_of_a_tuple(self):
        self.refused([(0,)])
        self.refused([(0, 1), (1, 0)])
        self.refused([[0, 1], [1, 0]])
        self.refused(([0],))
        self.refused(([0, 1], (1, 0)))
        self.refused(((0, 1), [1, 0]))

    def test_rows_of_other_kinds(self):
        for row in (None, 0, 1, True, "0", "", b"0", {0: 0}, {0}, range(1), object(), Unfriendly()):
            with self.subTest(kind=str(row.__class__)):
                self.refused((row,))
                self.refused(((None, None), row))
                self.refused((row, (None, None)))
        self.refused(("01", "10"))
        self.refused(((0, 1), "10"))

    def test_no_row_at_all_and_seven_rows_and_more(self):
        self.refused(())
        self.refused(((),))
        self.refused(((), ()))
        for size in (7, 8, 40):
            self.refused(cyclic(size))
            self.refused(empty(size))

    def test_rows_of_too_many_or_too_few_entries(self):
        for size in range(1, 7):
            for row in range(size):
                for line in ((None,) * (size - 1), (None,) * (size + 1)):
                    with self.subTest(size=size, row=row, line=line):
                        begun = empty(size)
                        self.refused(begun[:row] + (line,) + begun[row + 1:])
        self.refused(((0, 1, 2), (1, 2, 0)))
        self.refused(((0, 1), (1, 0), (None, None)))

    def test_entries_that_are_no_things(self):
        for size in range(1, 7):
            wrong = [
                size, size + 1, 10 ** 59, 10 ** 60, -1, -size, -(10 ** 59), "0", "", "None", b"0", 0.0, 1.0, 0j,
                True, False, (), (0,), [], [0], {}, object(), Unfriendly(), float("nan"),
            ]
            for entry in wrong:
                for row, column in ((0, 0), (size - 1, 0), (0, size - 1), (size - 1, size - 1)):
                    with self.subTest(size=size, kind=str(entry.__class__), row=row, column=column):
                        self.refused(replaced(empty(size), row, column, entry))

    def test_truths_are_no_things_even_where_their_numbers_would_do(self):
        self.refused(((False,),))
        self.refused(((False, 1), (1, 0)))
        self.refused(((0, True), (1, 0)))
        self.refused(((0, 1), (1, False)))

    def test_no_square_goes_ahead_of_twice(self):
        self.refused(((0, 0), (1, 2)))
        self.refused(((0, 0), (0, -1)))
        self.refused(((0, 0), (0, "1")))
        self.refused(((0, 0), (0, True)))
        self.refused(((0, 0), [None, None]))
        self.refused(((0, 0), (None,)))
        self.refused(((0, 0, 0), (1, 2, 0)))
        self.refused(((0,) * 7,) * 7)

    def test_twice_in_a_row(self):
        self.told_twice(((0, 0), (None, None)), (0, 1))
        self.told_twice(((None, None, None), (2, None, 2), (None, None, None)), (1, 2))
        self.told_twice(((None, None, None), (None, None, None), (1, 1, 1)), (2, 1))
        for size in range(2, 7):
            begun = replaced(replaced(empty(size), size - 1, 0, size - 1), size - 1, size - 1, size - 1)
            self.told_twice(begun, (size - 1, size - 1))

    def test_twice_in_a_column(self):
        self.told_twice(((0, None), (0, None)), (1, 0))
        self.told_twice(((None, 2, None), (None, None, None), (None, 2, None)), (2, 1))
        self.told_twice(((None, None, 0), (None, None, 0), (None, None, 0)), (1, 2))
        for size in range(2, 7):
            begun = replaced(replaced(empty(size), 0, size - 1, 0), size - 1, size - 1, 0)
            self.told_twice(begun, (size - 1, size - 1))

    def test_twice_in_both(self):
        self.told_twice(((0, 1), (0, 0)), (1, 0))
        self.told_twice(((None, 0), (0, 0)), (1, 1))
        self.told_twice(((0, 0), (0, 0)), (0, 1))

    def test_the_first_cell_row_by_row(self):
        self.told_twice(((0, None, None), (0, None, None), (None, 1, 1)), (1, 0))
        self.told_twice(((0, 1, None), (1, 2, 2), (0, None, None)), (1, 2))
        self.told_twice(((None, None, 2), (1, None, 2), (1, None, None)), (1, 2))
        self.told_twice(((0, 1, 2), (1, 2, 0), (1, 2, 0)), (2, 0))

    def test_each_filling_of_small_sizes(self):
        fillings = [((entry,),) for entry in (None, 0)]
        for entries in itertools.product((None, 0, 1), repeat=4):
            fillings.append((entries[:2], entries[2:]))
        for entries in itertools.islice(itertools.product((None, 0, 1, 2), repeat=9), 0, None, 13):
            fillings.append((entries[:3], entries[3:6], entries[6:]))
        for begun in fillings:
            cell = first_twice(begun)
            if cell is None:
                self.assertIsNone(check(begun))
            else:
                self.told_twice(begun, cell)

    def test_one_thing_changed_in_a_square_of_each_size(self):
        for size in range(2, 7):
            square = cyclic(size)
            for row, column, thing in itertools.product(range(size), repeat=3):
                if square[row][column] != thing:
                    begun = replaced(square, row, column, thing)
                    self.told_twice(begun, first_twice(begun))

    def test_nothing_is_changed_and_the_same_is_told_again(self):
        rows = [[0, 1], [1, 0]]
        kept = copy.deepcopy(rows)
        for again in range(2):
            self.refused(rows)
            self.refused(((0, [1]), (1, 0)))
            self.assertIsNone(check(((0, 1), (1, None))))
            self.told_twice(((0, 1), (0, None)), (1, 0))
        self.assertEqual(rows, kept)


class Whole(unittest.TestCase):
    def test_squares_are_whole(self):
        for size in range(1, 7):
            self.assertIs(is_whole(cyclic(size)), True)

    def test_a_single_empty_cell_is_enough(self):
        for size in range(1, 7):
            self.assertIs(is_whole(empty(size)), False)
            for row, column in itertools.product(range(size), repeat=2):
                self.assertIs(is_whole(replaced(cyclic(size), row, column, None)), False)


class Left(unittest.TestCase):
    def test_all_is_left_in_an_empty_square(self):
        for size in range(1, 7):
            for row, column in itertools.product(range(size), repeat=2):
                self.assertEqual(left(empty(size), row, column), list(range(size)))

    def test_what_stands_in_the_row_or_in_the_column_is_not_left(self):
        begun = ((None, 3, None, None), (None, None, None, None), (1, None, None, 0), (None, None, None, None))
        self.assertEqual(left(begun, 0, 0), [0, 2])
        self.assertEqual(left(begun, 0, 2), [0, 1, 2])
        self.assertEqual(left(begun, 0, 3), [1, 2])
        self.assertEqual(left(begun, 1, 0), [0, 2, 3])
        self.assertEqual(left(begun, 1, 2), [0, 1, 2, 3])
        self.assertEqual(left(begun, 2, 1), [2])
        self.assertEqual(left(begun, 3, 3), [1, 2, 3])

    def test_nothing_is_left(self):
        self.assertEqual(left(((None, 0), (1, None)), 0, 0), [])
        self.assertEqual(left(((None, 0, 1), (2, None, None), (None, None, None)), 0, 0), [])

    def test_the_only_cell_of_the_least_square(self):
        self.assertEqual(left(((None,),), 0, 0), [0])

    def test_against_all_cells_of_many_begun_squares(self):
        for size in range(1, 7):
            for every in range(1, 7):
                begun = with_holes(cyclic(size), every)
                for row, column in itertools.product(range(size), repeat=2):
                    if begun[row][column] is None:
                        met = set(begun[row]) | {line[column] for line in begun}
                        told = left(begun, row, column)
                        self.assertIsInstance(told, list)
                        self.assertEqual(told, sorted(set(range(size)) - met))

    def test_a_told_list_is_the_askers_own(self):
        begun = ((None, 1), (None, None))
        told = left(begun, 0, 0)
        other = left(begun, 1, 0)
        told.append(9)
        told[0] = 7
        self.assertEqual(left(begun, 0, 0), [0])
        self.assertEqual(other, [0, 1])
        self.assertEqual(begun, ((None, 1), (None, None)))


class Put(unittest.TestCase):
    def refused(self, kind, begun, row, column, thing):
        with self.assertRaises(kind) as taken:
            put(begun, row, column, thing)
        self.assertIs(taken.exception.__class__, kind)

    def test_the_thing_stands_there_and_all_else_as_it_was(self):
        for size in range(1, 7):
            for every in range(1, 7):
                begun = with_holes(cyclic(size), every)
                kept = copy.deepcopy(begun)
                for row, column in itertools.product(range(size), repeat=2):
                    if begun[row][column] is None:
                        for thing in left(begun, row, column):
                            told = put(begun, row, column, thing)
                            self.assertEqual(told, replaced(begun, row, column, thing))
                            self.assertIsNone(check(told))
                            self.assertEqual(begun, kept)

    def test_a_square_put_together_thing_by_thing(self):
        square = cyclic(4)
        begun = empty(4)
        for row, column in reversed(list(itertools.product(range(4), repeat=2))):
            self.assertFalse(is_whole(begun))
            begun = put(begun, row, column, square[row][column])
        self.assertTrue(is_whole(begun))
        self.assertEqual(begun, square)
        self.assertEqual(put(((None,),), 0, 0, 0), ((0,),))

    def test_a_cell_that_is_not_empty(self):
        begun = ((0, None, None), (None, None, None), (None, None, 1))
        for thing in (2, 1):
            self.refused(NoCell, begun, 0, 0, thing)
        self.refused(NoCell, begun, 2, 2, 0)

    def test_no_cell_goes_ahead_of_no_thing(self):
        begun = ((0, 1, None), (2, None, None), (None, None, None))
        for thing in (0, 1, 2, 3, -1, 10 ** 59, -(10 ** 59)):
            self.refused(NoCell, begun, 0, 0, thing)

    def test_a_thing_that_stands_in_the_row_or_in_the_column(self):
        begun = ((0, None, None), (None, None, None), (None, None, 1))
        self.refused(NoThing, begun, 0, 1, 0)
        self.refused(NoThing, begun, 2, 1, 1)
        self.refused(NoThing, begun, 2, 0, 0)
        self.refused(NoThing, begun, 1, 2, 1)
        self.refused(NoThing, begun, 0, 2, 0)
        self.refused(NoThing, begun, 0, 2, 1)
        self.assertEqual(begun, ((0, None, None), (None, None, None), (None, None, 1)))

    def test_numbers_that_are_no_things_of_the_size(self):
        for size in range(1, 7):
            for thing in (-1, -size, size, size + 1, 10 ** 59, 10 ** 60 - 1, -(10 ** 59)):
                self.refused(NoThing, empty(size), 0, 0, thing)
                self.refused(NoThing, empty(size), size - 1, size - 1, thing)

    def test_the_same_is_told_again(self):
        begun = ((None, 1), (None, None))
        first = put(begun, 0, 0, 0)
        self.assertEqual(put(begun, 1, 1, 0), ((None, 1), (None, 0)))
        self.assertEqual(put(begun, 0, 0, 0), first)
        self.refused(NoThing, begun, 0, 0, 1)
        self.refused(NoThing, begun, 0, 0, 1)


if __name__ == "__main__":
    unittest.main()
