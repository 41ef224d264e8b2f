import copy
import itertools
import math
import unittest

from latinclose.closing import closed
from latinclose.counting import closings, how_many
from latinclose.errors import TooGreat, TooMany
from samples import (
    Numbers, all_squares, begun_squares, cells_of, cyclic, empty, is_square, keeps, plain_closings, replaced,
)

# By how many closings they have.
OF_SIZE_SIX = {
    300: (
        (None, None, None, None, None, None), (3, None, None, None, None, None), (4, None, None, None, None, None),
        (2, None, 0, 3, None, None), (None, None, 4, 5, None, None), (1, 5, None, None, 0, None),
    ),
    302: (
        (None, None, None, None, None, None), (0, 3, None, None, 4, 2), (None, 4, None, None, None, None),
        (None, None, 3, None, 0, None), (None, None, None, 0, None, None), (None, 1, None, None, 2, None),
    ),
    400: (
        (None, 0, 2, None, None, None), (None, None, None, None, None, None), (None, None, None, None, 4, 2),
        (None, None, None, None, 1, None), (None, None, None, None, None, None), (0, 2, 1, 5, None, 4),
    ),
}


def some_closings(begun, most):
    """All closings in their order, or the first ones, one more than most."""
    return list(itertools.islice(plain_closings(begun), most + 1))


class Closings(unittest.TestCase):
    def refused(self, most, begun, *handed):
        with self.assertRaises(TooMany) as taken:
            closings(begun, *handed)
        self.assertIs(taken.exception.__class__, TooMany)
        self.assertEqual(taken.exception.most, most)

    def holds(self, begun, expected):
        kept = copy.deepcopy(begun)
        told = closings(begun, max(len(expected), 1))
        self.assertIsInstance(told, list)
        self.assertEqual(told, expected)
        self.assertEqual(told, sorted(set(told)))
        for square in told:
            self.assertTrue(is_square(square))
            self.assertTrue(keeps(begun, square))
        if len(expected) > 1:
            self.refused(len(expected) - 1, begun, len(expected) - 1)
            self.refused(1, begun, 1)
        self.assertEqual(begun, kept)

    def test_small_begun_squares(self):
        for begun in begun_squares():
            if len(begun) < 5:
                expected = [square for square in all_squares(len(begun)) if keeps(begun, square)]
                if len(expected) <= 400:
                    self.holds(begun, expected)
                else:
                    self.refused(400, begun, 400)

    def test_greater_begun_squares(self):
        found = []
        for begun in begun_squares():
            if len(begun) >= 5 and closed(begun)[0] == "closed":
                expected = some_closings(begun, 60)
                if len(expected) <= 60:
                    self.holds(begun, expected)
                    found.append(len(expected))
                else:
                    self.refused(60, begun, 60)
        self.assertGreater(len(found), 50)
        self.assertGreater(max(found), 10)

    def test_many_of_size_five_and_six(self):
        numbers = Numbers(31)
        for size, least, many in ((5, 8, 25), (6, 10, 15)):
            for turn in range(many):
                begun = numbers.emptied(numbers.square(size), least + numbers.below(12))
                self.holds(begun, some_closings(begun, 400))

    def test_none(self):
        for begun in begun_squares():
            if closed(begun)[0] == "cases":
                self.assertEqual(closings(begun), [])
                self.assertEqual(closings(begun, 1), [])

    def test_the_square_itself(self):
        numbers = Numbers(5)
        for size in range(1, 7):
            for square in (cyclic(size), numbers.square(size)):
                self.assertEqual(closings(square), [square])
                self.assertEqual(closings(square, 1), [square])
            for row, column in cells_of(size):
                self.assertEqual(closings(replaced(cyclic(size), row, column, None), 1), [cyclic(size)])

    def test_all_squares_of_small_sizes(self):
        self.assertEqual(closings(empty(1)), [((0,),)])
        self.assertEqual(closings(empty(2)), [((0, 1), (1, 0)), ((1, 0), (0, 1))])
        self.holds(empty(3), list(all_squares(3)))
        self.assertEqual(len(closings(empty(3), 12)), 12)
        self.refused(11, empty(3), 11)
        self.holds(empty(4), list(all_squares(4)))
        self.refused(400, empty(4), 400)
        self.refused(400, empty(5), 400)
        self.refused(400, empty(6), 400)

    def test_with_no_most_handed_in_it_is_300(self):
        self.assertEqual(closings(OF_SIZE_SIX[300]), closings(OF_SIZE_SIX[300], 300))
        self.assertEqual(len(closings(OF_SIZE_SIX[300])), 300)
        self.refused(299, OF_SIZE_SIX[300], 299)
        self.refused(300, OF_SIZE_SIX[302])
        self.refused(301, OF_SIZE_SIX[302], 301)
        self.assertEqual(len(closings(OF_SIZE_SIX[302], 302)), 302)
        self.refused(300, OF_SIZE_SIX[400])
        self.refused(300, empty(4))
        self.refused(300, empty(6))

    def test_the_greatest_most(self):
        self.assertEqual(closings(OF_SIZE_SIX[400], most=400), some_closings(OF_SIZE_SIX[400], 400))
        self.assertEqual(len(closings(OF_SIZE_SIX[400], 400)), 400)
        self.refused(399, OF_SIZE_SIX[400], 399)

    def test_most_is_held_against_closings_alone(self):
        begun = replaced(replaced(cyclic(6), 0, 0, None), 3, 3, None)
        self.assertEqual(closings(begun, 1), [cyclic(6)])
        self.assertEqual(len(closings(((None,) * 4, (1, 0, 3, 2), (2, 3, 0, 1), (None,) * 4), 4)), 4)

    def test_told_lists_are_the_askers_own(self):
        begun = empty(3)
        told = closings(begun)
        told.pop()
        told.append("more")
        told[0] = None
        self.assertEqual(closings(begun), list(all_squares(3)))
        square = closings(cyclic(3))
        square.append("more")
        self.assertEqual(closings(cyclic(3)), [cyclic(3)])
        none = closings(((None, 0), (1, None)))
        none.append("more")
        self.assertEqual(closings(((None, 0), (1, None))), [])


class HowMany(unittest.TestCase):
    def test_each_size_that_is_told(self):
        self.assertEqual([how_many(size) for size in range(1, 6)], [1, 2, 12, 576, 161280])
        self.assertEqual([how_many(size) for size in range(1, 6)], [1, 2, 12, 576, 161280])

    def test_against_all_squares(self):
        for size in range(1, 5):
            self.assertEqual(how_many(size), len(all_squares(size)))
            self.assertEqual(how_many(size), len(closings(empty(size), 600)))

    def test_size_five_by_those_with_rising_first_row_and_column(self):
        begun = (tuple(range(5)),) + tuple((row,) + (None,) * 4 for row in range(1, 5))
        self.assertEqual(how_many(5), math.factorial(5) * math.factorial(4) * len(list(plain_closings(begun))))
        self.assertEqual(how_many(5), math.factorial(5) * math.factorial(4) * len(closings(begun)))

    def test_other_sizes_are_refused(self):
        for size in (0, -1, -2, -5, -6, 6, 7, 8, 10 ** 59, 10 ** 60 - 1, -(10 ** 59), 1 - 10 ** 60):
            for again in range(2):
                with self.subTest(size):
                    with self.assertRaises(TooGreat) as taken:
                        how_many(size)
                    self.assertIs(taken.exception.__class__, TooGreat)


if __name__ == "__main__":
    unittest.main()
