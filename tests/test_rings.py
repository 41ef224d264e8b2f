import copy
import itertools
import unittest

from latinclose.rings import exchanged, rings
from samples import WITHOUT_PARTS_OF_TWO, cyclic, is_square, paired_table, plain_exchanged, plain_rings, squares


def two_rows(square):
    """All two unlike rows, either way about."""
    return list(itertools.permutations(range(len(square)), 2))


class Rings(unittest.TestCase):
    def test_all_two_rows_of_many_squares(self):
        met = set()
        for square in squares():
            kept = copy.deepcopy(square)
            for one, other in two_rows(square):
                told = rings(square, one, other)
                self.assertEqual(told, plain_rings(square, one, other))
                self.assertEqual(rings(square, one, other), told)
                met.add((len(square), tuple(len(ring) for ring in told)))
            self.assertEqual(square, kept)
        for size in range(2, 7):
            self.assertIn((size, (size,)), met)
        self.assertLessEqual({(4, (2, 2)), (5, (2, 3)), (5, (3, 2)), (6, (2, 2, 2)), (6, (3, 3)), (6, (2, 4))}, met)

    def test_what_a_ring_is(self):
        for square in squares():
            for one, other in two_rows(square):
                told = rings(square, one, other)
                self.assertIs(told.__class__, list)
                columns = [column for ring in told for column in ring]
                self.assertEqual(sorted(columns), list(range(len(square))))
                self.assertEqual([ring[0] for ring in told], sorted(ring[0] for ring in told))
                for ring in told:
                    self.assertIs(ring.__class__, list)
                    self.assertGreaterEqual(len(ring), 2)
                    self.assertEqual(ring[0], min(ring))
                    for column, onto in zip(ring, ring[1:] + ring[:1]):
                        self.assertIs(column.__class__, int)
                        self.assertEqual(square[one][onto], square[other][column])

    def test_told_ones(self):
        self.assertEqual(rings(cyclic(2), 0, 1), [[0, 1]])
        self.assertEqual(rings(cyclic(3), 0, 1), [[0, 1, 2]])
        self.assertEqual(rings(cyclic(3), 1, 0), [[0, 2, 1]])
        self.assertEqual(rings(cyclic(4), 3, 1), [[0, 2], [1, 3]])
        self.assertEqual(rings(cyclic(6), 0, 2), [[0, 2, 4], [1, 3, 5]])
        self.assertEqual(rings(cyclic(6), 2, 0), [[0, 4, 2], [1, 5, 3]])
        self.assertEqual(rings(cyclic(6), 0, 5), [[0, 5, 4, 3, 2, 1]])
        self.assertEqual(rings(paired_table(4), 1, 2), [[0, 3], [1, 2]])
        square = ((0, 1, 2, 3, 4), (1, 0, 3, 4, 2), (2, 3, 4, 0, 1), (3, 4, 1, 2, 0), (4, 2, 0, 1, 3))
        self.assertTrue(is_square(square))
        self.assertEqual(rings(square, 0, 1), [[0, 1], [2, 3, 4]])
        self.assertEqual(rings(square, 1, 0), [[0, 1], [2, 4, 3]])

    def test_somewhat_greater_squares(self):
        self.assertEqual(rings(cyclic(7), 0, 3), [[0, 3, 6, 2, 5, 1, 4]])
        self.assertEqual(rings(cyclic(8), 0, 6), [[0, 6, 4, 2], [1, 7, 5, 3]])

    def test_told_lists_are_the_askers_own(self):
        for square in (cyclic(2), cyclic(4), cyclic(6), WITHOUT_PARTS_OF_TWO):
            for one, other in two_rows(square):
                told = rings(square, one, other)
                kept = copy.deepcopy(told)
                for ring in told:
                    ring.append(9)
                    ring[0] = 7
                told.append([8])
                told[0] = None
                self.assertEqual(rings(square, one, other), kept)


class Exchanged(unittest.TestCase):
    def test_each_column_of_all_two_rows_of_many_squares(self):
        met = set()
        for square in squares():
            kept = copy.deepcopy(square)
            for one, other in two_rows(square):
                for column in range(len(square)):
                    told = exchanged(square, one, other, column)
                    self.assertEqual(told, plain_exchanged(square, one, other, column))
                    self.assertTrue(is_square(told))
                    self.assertEqual(exchanged(square, one, other, column), told)
                    self.assertEqual(exchanged(told, one, other, column), square)
                    self.assertEqual(square, kept)
                    met.add((len(square), sum(told[one][k] != square[one][k] for k in range(len(square)))))
        for size in range(2, 7):
            self.assertIn((size, size), met)
        self.assertLessEqual({(4, 2), (5, 2), (5, 3), (6, 2), (6, 3), (6, 4)}, met)

    def test_either_way_about_it_is_the_same(self):
        for square in squares():
            for one, other in two_rows(square):
                for column in range(len(square)):
                    self.assertEqual(exchanged(square, one, other, column), exchanged(square, other, one, column))

    def test_a_ring_of_all_columns(self):
        self.assertEqual(exchanged(cyclic(2), 0, 1, 1), ((1, 0), (0, 1)))
        for column in range(3):
            self.assertEqual(exchanged(cyclic(3), 0, 2, column), ((2, 0, 1), (1, 2, 0), (0, 1, 2)))

    def test_a_ring_of_two(self):
        for column in (1, 3):
            told = exchanged(cyclic(4), 1, 3, column)
            self.assertEqual(told, ((0, 1, 2, 3), (1, 0, 3, 2), (2, 3, 0, 1), (3, 2, 1, 0)))
        for column in (0, 2):
            told = exchanged(cyclic(4), 1, 3, column)
            self.assertEqual(told, ((0, 1, 2, 3), (3, 2, 1, 0), (2, 3, 0, 1), (1, 0, 3, 2)))

    def test_along_all_rings_the_rows_have_changed_places(self):
        for square in squares():
            for one, other in two_rows(square):
                told = square
                for ring in rings(square, one, other):
                    told = exchanged(told, one, other, ring[-1])
                expected = list(square)
                expected[one], expected[other] = square[other], square[one]
                self.assertEqual(told, tuple(expected))

    def test_somewhat_greater_squares(self):
        for square in (cyclic(7), cyclic(8), paired_table(8)):
            for one, other in two_rows(square):
                told = exchanged(square, one, other, 5)
                self.assertEqual(told, plain_exchanged(square, one, other, 5))
                self.assertTrue(is_square(told))


if __name__ == "__main__":
    unittest.main()
