import copy
import itertools
import unittest

from latinclose.begun import check
from latinclose.roles import turned
from samples import (
    TABLE_OF_TURNS, TURNS_OF_THREE, Numbers, cells_of, cyclic, exchanged_tables, is_square, paired_table, squares,
)


def entries(square):
    return {(row, column, square[row][column]) for row, column in cells_of(len(square))}


def sent(entry, roles):
    return (entry[roles[0]], entry[roles[1]], entry[roles[2]])


def many_squares():
    return squares() + exchanged_tables()


class Turned(unittest.TestCase):
    def holds(self, square, roles):
        kept = copy.deepcopy((square, roles))
        told = turned(square, roles)
        self.assertTrue(is_square(told))
        self.assertEqual(len(told), len(square))
        self.assertEqual(entries(told), {sent(entry, roles) for entry in entries(square)})
        self.assertIs(told.__class__, tuple)
        for row in told:
            self.assertIs(row.__class__, tuple)
            for thing in row:
                self.assertIs(thing.__class__, int)
        self.assertEqual(turned(square, roles), told)
        self.assertEqual((square, roles), kept)

    def test_all_six_roles_of_many_squares(self):
        met = set()
        for square in many_squares():
            for roles in TURNS_OF_THREE:
                self.holds(square, roles)
                self.assertIsNone(check(turned(square, roles)))
                met.add((len(square), roles))
        self.assertEqual(len(met), 36)

    def test_the_still_roles_leave_it_as_it_is(self):
        for square in many_squares():
            self.assertEqual(turned(square, (0, 1, 2)), square)

    def test_roles_undone(self):
        for square in many_squares():
            for roles in TURNS_OF_THREE:
                back = tuple(roles.index(place) for place in range(3))
                self.assertEqual(turned(turned(square, roles), back), square)
                self.assertEqual(turned(turned(square, back), roles), square)

    def test_one_behind_another(self):
        for square in many_squares():
            for one, other in itertools.product(TURNS_OF_THREE, repeat=2):
                both = tuple(one[place] for place in other)
                self.assertEqual(turned(turned(square, one), other), turned(square, both))

    def test_rows_and_columns_change_places(self):
        for square in many_squares():
            self.assertEqual(turned(square, (1, 0, 2)), tuple(zip(*square)))

    def test_told_ones(self):
        square = ((0, 1, 2), (2, 0, 1), (1, 2, 0))
        self.assertEqual(turned(square, (0, 2, 1)), ((0, 1, 2), (1, 2, 0), (2, 0, 1)))
        self.assertEqual(turned(square, (1, 0, 2)), ((0, 2, 1), (1, 0, 2), (2, 1, 0)))
        self.assertEqual(turned(square, (1, 2, 0)), ((0, 2, 1), (1, 0, 2), (2, 1, 0)))
        self.assertEqual(turned(square, (2, 0, 1)), ((0, 1, 2), (1, 2, 0), (2, 0, 1)))
        self.assertEqual(turned(square, (2, 1, 0)), square)
        for roles in TURNS_OF_THREE:
            self.assertEqual(turned(((0,),), roles), ((0,),))
            self.assertEqual(turned(((1, 0), (0, 1)), roles), ((1, 0), (0, 1)))

    def test_all_six_may_be_unlike(self):
        square = Numbers(17).square(6)
        self.assertEqual(len({turned(square, roles) for roles in TURNS_OF_THREE}), 6)
        self.assertEqual(len({turned(paired_table(4), roles) for roles in TURNS_OF_THREE}), 1)
        self.assertGreater(len({turned(TABLE_OF_TURNS, roles) for roles in TURNS_OF_THREE}), 1)

    def test_somewhat_greater_squares(self):
        for square in (cyclic(7), Numbers(19).square(7), cyclic(8), paired_table(8)):
            for roles in TURNS_OF_THREE:
                self.holds(square, roles)


if __name__ == "__main__":
    unittest.main()
