import copy
import unittest

from latinclose.closing import closed
from latinclose.errors import TooMany
from samples import (
    WINDING, Numbers, begun_squares, cells_of, cyclic, empty, is_square, keeps, plain_closings, plain_first_choice,
    plain_way, replaced, with_put,
)

# Up to size 6 none is known through which so many begun squares are looked at; the size lies somewhat beyond.
CASES_AT_300 = (
    (None, 0, 5, 1, 3, None, None, None), (5, 4, 3, 2, 0, None, None, None), (0, 2, 4, 5, 1, None, None, None),
    (3, 5, 1, 0, 2, None, None, None), (2, 1, 0, None, None, None, None, None), (None,) * 8,
    (1, None, None, None, None, None, None, None), (None,) * 8,
)
CLOSED_AT_300 = (
    (1, 4, 6, 3, None, None, None, None), (5, None, 2, 6, None, None, None, None),
    (4, 3, 5, 2, None, None, None, None), (2, 0, 4, 1, None, None, None, None),
    (3, 5, 0, 4, None, None, None, None), (None,) * 8, (None,) * 8, (None,) * 8,
)
CASES_AT_301 = (
    (3, 0, 4, None, 1, None, None, None), (0, 3, 1, 4, 2, None, None, None), (4, 2, 0, 1, 3, None, None, None),
    (2, None, 3, 0, 4, None, None, None), (None,) * 8, (None,) * 8,
    (None, None, None, 5, None, None, None, None), (None,) * 8,
)


def looked_at_in(book):
    return 1 + sum(looked_at_in(case) for number, case in book[1])


def most_cases_in(book):
    return max([len(book[1])] + [most_cases_in(case) for number, case in book[1]])


class Closed(unittest.TestCase):
    def refused(self, most, begun, *handed):
        with self.assertRaises(TooMany) as taken:
            closed(begun, *handed)
        self.assertIs(taken.exception.__class__, TooMany)
        self.assertEqual(taken.exception.most, most)

    def is_book(self, begun, book):
        """The cases leave out nothing, and each of them is followed until there are no more."""
        self.assertIsInstance(book, tuple)
        choice, cases = book
        self.assertIsInstance(cases, list)
        first, numbers = plain_first_choice(begun)
        self.assertEqual(choice, first)
        self.assertEqual([number for number, case in cases], numbers)
        for case in cases:
            self.assertIsInstance(case, tuple)
            self.is_book(with_put(begun, choice, case[0]), case[1])

    def test_a_square_is_told_as_it_is(self):
        numbers = Numbers(5)
        for size in range(1, 7):
            for square in [cyclic(size)] + [numbers.square(size) for turn in range(5)]:
                self.assertEqual(closed(square), ("closed", square))
                self.assertEqual(closed(square, 1), ("closed", square))

    def test_many_begun_squares_against_the_plain_way(self):
        for begun in begun_squares():
            kept = copy.deepcopy(begun)
            looked_at, expected = plain_way(begun)
            told = closed(begun)
            self.assertIsInstance(told, tuple)
            self.assertEqual(told, expected)
            self.assertEqual(closed(begun), told)
            self.assertEqual(begun, kept)

    def test_just_as_many_as_are_looked_at(self):
        for begun in begun_squares():
            looked_at, expected = plain_way(begun)
            self.assertEqual(closed(begun, looked_at), expected)
            self.assertEqual(closed(begun, most=looked_at + 1), expected)
            self.assertEqual(closed(begun, 400), expected)
            if looked_at > 1:
                self.refused(looked_at - 1, begun, looked_at - 1)
                self.refused(1, begun, 1)

    def test_closed_just_where_there_is_a_closing(self):
        found = {"closed": 0, "cases": 0}
        for begun in begun_squares():
            told = closed(begun)
            found[told[0]] += 1
            if told[0] == "closed":
                self.assertTrue(is_square(told[1]))
                self.assertTrue(keeps(begun, told[1]))
            else:
                self.assertEqual(told[0], "cases")
                self.is_book(begun, told[1])
                self.assertIsNone(next(plain_closings(begun), None))
        self.assertGreater(min(found.values()), 100)

    def test_one_closing(self):
        for size in range(1, 7):
            for row, column in cells_of(size):
                begun = replaced(cyclic(size), row, column, None)
                self.assertEqual(closed(begun), ("closed", cyclic(size)))
                self.assertEqual(closed(begun, 2), ("closed", cyclic(size)))
                self.refused(1, begun, 1)
        begun = ((0, None, None), (None, None, None), (None, None, 1))
        self.assertEqual(closed(begun), ("closed", ((0, 1, 2), (1, 2, 0), (2, 0, 1))))

    def test_the_first_of_several_closings(self):
        self.assertEqual(closed(empty(1)), ("closed", ((0,),)))
        self.assertEqual(closed(empty(2)), ("closed", ((0, 1), (1, 0))))
        self.assertEqual(closed(empty(3)), ("closed", ((0, 1, 2), (1, 2, 0), (2, 0, 1))))
        self.assertEqual(closed(((None, None), (None, 1))), ("closed", ((1, 0), (0, 1))))
        told = ((0, 1, 2, 3), (1, 3, 0, 2), (2, 0, 3, 1), (3, 2, 1, 0))
        self.assertEqual(closed(empty(4)), ("closed", told))
        self.assertNotEqual(told, next(plain_closings(empty(4))))

    def test_empty_squares_of_each_size(self):
        for size in range(1, 7):
            looked_at, expected = plain_way(empty(size))
            self.assertEqual(closed(empty(size)), expected)
            self.assertEqual(closed(empty(size), looked_at), expected)
            self.refused(looked_at - 1, empty(size), looked_at - 1)

    def test_a_book_with_no_cases(self):
        self.assertEqual(closed(((None, 0), (1, None))), ("cases", (("cell", 0, 0), [])))
        self.assertEqual(closed(((None, 0), (1, None)), 1), ("cases", (("cell", 0, 0), [])))
        begun = ((1, None, None), (None, 0, None), (None, None, 0))
        self.assertEqual(closed(begun, 1), ("cases", (("row", 0, 0), [])))
        begun = ((1, None, None, None), (None, 0, None, None), (None, None, 0, None), (2, None, None, None))
        self.assertEqual(closed(begun, 1), ("cases", (("column", 0, 0), [])))

    def test_a_book_with_cases(self):
        begun = ((None, None, None), (None, 1, 0), (None, 0, 1))
        book = (("cell", 0, 1), [(2, (("cell", 0, 2), []))])
        self.assertEqual(closed(begun), ("cases", book))
        self.assertEqual(closed(begun, 2), ("cases", book))
        self.refused(1, begun, 1)

    def test_books_that_part_into_several_cases(self):
        for begun in WINDING[1:3]:
            told = closed(begun, 21)
            self.assertEqual(told[0], "cases")
            self.assertEqual(looked_at_in(told[1]), 21)
            self.assertGreater(most_cases_in(told[1]), 1)
            self.is_book(begun, told[1])
            self.refused(20, begun, 20)

    def test_ways_that_lead_back_before_a_closing_is_come_to(self):
        for begun in WINDING[3:]:
            looked_at, expected = plain_way(begun)
            holes = len([1 for row, column in cells_of(6) if begun[row][column] is None])
            self.assertGreater(looked_at, holes + 1)
            self.assertEqual(closed(begun, looked_at), expected)
            self.refused(looked_at - 1, begun, looked_at - 1)

    def test_with_no_most_handed_in_it_is_300(self):
        for begun, name in ((CASES_AT_300, "cases"), (CLOSED_AT_300, "closed")):
            looked_at, expected = plain_way(begun)
            self.assertEqual((looked_at, expected[0]), (300, name))
            self.assertEqual(closed(begun), expected)
            self.refused(299, begun, 299)
        looked_at, expected = plain_way(CASES_AT_301)
        self.assertEqual(looked_at, 301)
        self.refused(300, CASES_AT_301)
        self.refused(300, CASES_AT_301, 300)
        self.assertEqual(closed(CASES_AT_301, 301), expected)
        self.assertEqual(closed(CASES_AT_301, 400), expected)

    def test_each_asking_is_counted_by_itself(self):
        begun = WINDING[1]
        for again in range(3):
            self.refused(20, begun, 20)
            self.assertEqual(closed(begun, 21)[0], "cases")

    def test_told_books_are_the_askers_own(self):
        begun = WINDING[2]
        told = closed(begun)
        kept = copy.deepcopy(told)
        choice, cases = told[1]
        cases[0][1][1].append("more")
        cases.pop()
        cases.append("more")
        self.assertEqual(closed(begun), kept)
        ended = closed(((None, 0), (1, None)))
        ended[1][1].append("more")
        self.assertEqual(closed(((None, 0), (1, None))), ("cases", (("cell", 0, 0), [])))
        self.assertEqual(closed(begun), kept)


if __name__ == "__main__":
    unittest.main()
