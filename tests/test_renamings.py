import copy
import itertools
import unittest

from latinclose.begun import check
from latinclose.renamings import behind, renamed, still, undone
from samples import (
    all_renamings, all_squares, begun_squares, cells_of, cyclic, empty, is_renaming, is_square, plain_renamed,
    some_renamings, squares,
)


def renamings(size, many, state):
    return all_renamings(size) if size < 3 else some_renamings(size, many, state)


def many_begun_squares():
    return begun_squares() + squares()


class Renamed(unittest.TestCase):
    def holds(self, begun, renaming):
        kept = copy.deepcopy((begun, renaming))
        told = renamed(begun, renaming)
        self.assertEqual(told, plain_renamed(begun, renaming))
        self.assertIsNone(check(told))
        self.assertIs(told.__class__, tuple)
        for row in told:
            self.assertIs(row.__class__, tuple)
        self.assertEqual(renamed(begun, renaming), told)
        self.assertEqual((begun, renaming), kept)

    def test_many_begun_squares(self):
        for begun in many_begun_squares():
            for renaming in renamings(len(begun), 6, 3):
                self.holds(begun, renaming)

    def test_all_renamings_of_size_three(self):
        begun = ((0, 1, None), (None, 2, 0), (2, None, None))
        for renaming in all_renamings(3):
            self.holds(begun, renaming)
            for square in all_squares(3)[::5]:
                self.holds(square, renaming)

    def test_what_stands_where(self):
        for begun in many_begun_squares():
            rows, columns, things = renamings(len(begun), 1, 19)[-1]
            told = renamed(begun, (rows, columns, things))
            for r, c in cells_of(len(begun)):
                if begun[r][c] is None:
                    self.assertIsNone(told[rows[r]][columns[c]])
                else:
                    self.assertEqual(told[rows[r]][columns[c]], things[begun[r][c]])

    def test_squares_stay_squares_and_empty_ones_empty(self):
        for size in range(1, 7):
            for renaming in renamings(size, 10, 23):
                self.assertTrue(is_square(renamed(cyclic(size), renaming)))
                self.assertEqual(renamed(empty(size), renaming), empty(size))

    def test_each_of_the_three_by_itself(self):
        begun = ((0, 1, 2), (1, 2, 0), (2, None, None))
        same, turn = (0, 1, 2), (1, 2, 0)
        self.assertEqual(renamed(begun, (turn, same, same)), ((2, None, None), (0, 1, 2), (1, 2, 0)))
        self.assertEqual(renamed(begun, (same, turn, same)), ((2, 0, 1), (0, 1, 2), (None, 2, None)))
        self.assertEqual(renamed(begun, (same, same, turn)), ((1, 2, 0), (2, 0, 1), (0, None, None)))
        self.assertEqual(renamed(begun, (turn, turn, turn)), ((None, 0, None), (0, 1, 2), (1, 2, 0)))

    def test_the_least_size(self):
        self.assertEqual(renamed(((0,),), ((0,), (0,), (0,))), ((0,),))
        self.assertEqual(renamed(((None,),), ((0,), (0,), (0,))), ((None,),))

    def test_somewhat_greater_squares(self):
        for size in (7, 8):
            for renaming in some_renamings(size, 5, 29):
                self.assertEqual(renamed(cyclic(size), renaming), plain_renamed(cyclic(size), renaming))


class RenamingsOfRenamings(unittest.TestCase):
    def pairs(self, size):
        if size < 3:
            return list(itertools.product(all_renamings(size), repeat=2))
        return list(zip(some_renamings(size, 40, 37), some_renamings(size, 40, 41)))

    def test_behind_does_what_both_do(self):
        for size in range(1, 7):
            for one, other in self.pairs(size):
                kept = copy.deepcopy((one, other))
                both = behind(one, other)
                self.assertTrue(is_renaming(both, size))
                for place in range(3):
                    self.assertEqual(both[place], tuple(other[place][one[place][k]] for k in range(size)))
                self.assertEqual(behind(one, other), both)
                self.assertEqual((one, other), kept)

    def test_behind_held_against_renamed(self):
        unlike = 0
        for begun in many_begun_squares()[::2]:
            for one, other in self.pairs(len(begun))[:4]:
                told = renamed(begun, behind(one, other))
                self.assertEqual(told, renamed(renamed(begun, one), other))
                unlike += told != renamed(begun, behind(other, one))
        self.assertGreater(unlike, 100)

    def test_the_order_makes_a_difference(self):
        same = (0, 1, 2)
        one = ((1, 0, 2), same, (1, 2, 0))
        other = ((0, 2, 1), same, (1, 0, 2))
        self.assertEqual(behind(one, other), ((2, 0, 1), same, (0, 2, 1)))
        self.assertEqual(behind(other, one), ((1, 2, 0), same, (2, 1, 0)))

    def test_three_of_them_one_behind_another(self):
        for size in range(1, 7):
            for one, other in self.pairs(size)[:20]:
                for third in renamings(size, 3, 43):
                    self.assertEqual(behind(behind(one, other), third), behind(one, behind(other, third)))

    def test_undone_undoes_on_either_side(self):
        for size in range(1, 7):
            for renaming in renamings(size, 60, 47):
                kept = copy.deepcopy(renaming)
                back = undone(renaming)
                self.assertTrue(is_renaming(back, size))
                self.assertEqual(behind(renaming, back), still(size))
                self.assertEqual(behind(back, renaming), still(size))
                self.assertEqual(undone(back), renaming)
                self.assertEqual(undone(renaming), back)
                self.assertEqual(renaming, kept)
        self.assertEqual(undone(((1, 2, 0), (0, 2, 1), (2, 0, 1))), ((2, 0, 1), (0, 2, 1), (1, 2, 0)))

    def test_undone_held_against_renamed(self):
        for begun in many_begun_squares():
            for renaming in renamings(len(begun), 3, 53):
                self.assertEqual(renamed(renamed(begun, renaming), undone(renaming)), begun)
                self.assertEqual(renamed(renamed(begun, undone(renaming)), renaming), begun)

    def test_the_still_one_changes_nothing(self):
        for begun in many_begun_squares():
            self.assertEqual(renamed(begun, still(len(begun))), begun)
        for size in range(1, 9):
            self.assertTrue(is_renaming(still(size), size))
            self.assertEqual(still(size), (tuple(range(size)),) * 3)
            self.assertEqual(undone(still(size)), still(size))
        for size in range(1, 7):
            for renaming in renamings(size, 20, 59):
                self.assertEqual(behind(still(size), renaming), renaming)
                self.assertEqual(behind(renaming, still(size)), renaming)


if __name__ == "__main__":
    unittest.main()
