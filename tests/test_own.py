import copy
import itertools
import math
import unittest

from latinclose.own import alike_many, own
from latinclose.renamings import behind, still, undone
from samples import (
    FORMS_OF_SIX, TABLE_OF_TURNS, WITHOUT_PARTS_OF_TWO, Numbers, all_renamings, all_squares, cyclic, exchanged_tables,
    is_renaming, paired_table, plain_form, plain_own, plain_renamed, some_renamings, squares,
)


def small_squares():
    return all_squares(1) + all_squares(2) + all_squares(3) + all_squares(4)[::83] + (cyclic(4), paired_table(4))


def by_all_renamings(square):
    return [renaming for renaming in all_renamings(len(square)) if plain_renamed(square, renaming) == square]


class Own(unittest.TestCase):
    def holds(self, square, expected):
        kept = copy.deepcopy(square)
        told = own(square)
        self.assertIs(told.__class__, list)
        for renaming in told:
            self.assertTrue(is_renaming(renaming, len(square)))
        self.assertEqual(told, expected)
        self.assertEqual(own(square), told)
        self.assertEqual(square, kept)

    def test_held_against_all_renamings_up_to_size_four(self):
        for square in small_squares():
            self.holds(square, by_all_renamings(square))

    def test_many_squares_held_against_a_plain_look(self):
        met = set()
        for square in squares() + exchanged_tables() + FORMS_OF_SIX:
            self.holds(square, list(plain_own(square)))
            met.add((len(square), len(plain_own(square))))
        self.assertLessEqual({(5, 12), (5, 100), (6, 4), (6, 8), (6, 12), (6, 72), (6, 108), (6, 216)}, met)

    def test_each_leads_the_square_to_itself_and_comes_once(self):
        for square in squares() + exchanged_tables():
            told = own(square)
            for renaming in told:
                self.assertEqual(plain_renamed(square, renaming), square)
            for one, other in zip(told, told[1:]):
                self.assertLess(one, other)

    def test_they_are_a_group(self):
        for square in squares()[::3] + exchanged_tables():
            told = own(square)
            among = set(told)
            self.assertIn(still(len(square)), among)
            for renaming in told:
                self.assertIn(undone(renaming), among)
            for one, other in itertools.product(told, told[::9]):
                self.assertIn(behind(one, other), among)
                self.assertIn(behind(other, one), among)

    def test_all_two_of_a_small_group(self):
        for square in (cyclic(2), cyclic(3), cyclic(4), paired_table(4)):
            told = own(square)
            for one, other in itertools.product(told, repeat=2):
                self.assertIn(behind(one, other), told)

    def test_of_a_renamed_one_there_are_as_many(self):
        for square in squares() + exchanged_tables():
            renaming = some_renamings(len(square), 1, 109)[0]
            # Back to the first square, by an own renaming of it, and out again.
            expected = sorted(behind(behind(undone(renaming), one), renaming) for one in own(square))
            self.assertEqual(own(plain_renamed(square, renaming)), expected)

    def test_told_ones(self):
        same, turn = (0, 1), (1, 0)
        self.assertEqual(own(((0,),)), [((0,), (0,), (0,))])
        for square in all_squares(2):
            self.assertEqual(own(square), [
                (same, same, same), (same, turn, turn), (turn, same, turn), (turn, turn, same),
            ])
        self.assertEqual(len(own(cyclic(3))), 18)
        self.assertEqual(len(own(cyclic(4))), 32)
        self.assertEqual(len(own(paired_table(4))), 96)
        self.assertEqual(len(own(cyclic(5))), 100)
        self.assertEqual(len(own(cyclic(6))), 72)
        self.assertEqual(len(own(TABLE_OF_TURNS)), 216)
        self.assertEqual(len(own(WITHOUT_PARTS_OF_TWO)), 108)

    def test_the_told_list_is_the_askers_own(self):
        for square in (cyclic(1), cyclic(2), cyclic(4), cyclic(6), WITHOUT_PARTS_OF_TWO):
            told = own(square)
            kept = list(told)
            told.append(None)
            told[0] = "changed"
            self.assertEqual(own(square), kept)
            told.clear()
            self.assertEqual(own(square), kept)
            self.assertEqual(alike_many(square), math.factorial(len(square)) ** 3 // len(kept))

    def test_somewhat_greater_squares(self):
        self.assertEqual(len(own(cyclic(7))), 294)
        self.assertEqual(len(own(cyclic(8))), 256)
        for renaming in own(cyclic(7))[::20] + own(cyclic(8))[::20]:
            self.assertEqual(plain_renamed(cyclic(len(renaming[0])), renaming), cyclic(len(renaming[0])))


class AlikeMany(unittest.TestCase):
    def test_held_against_the_renamed_ones_up_to_size_four(self):
        for square in small_squares():
            told = alike_many(square)
            self.assertIs(told.__class__, int)
            reached = {plain_renamed(square, renaming) for renaming in all_renamings(len(square))}
            self.assertEqual(told, len(reached))

    def test_all_renamings_divided_by_the_own_ones(self):
        for square in squares() + exchanged_tables():
            kept = copy.deepcopy(square)
            told = alike_many(square)
            self.assertIs(told.__class__, int)
            self.assertEqual(told * len(plain_own(square)), math.factorial(len(square)) ** 3)
            self.assertEqual(alike_many(square), told)
            self.assertEqual(square, kept)

    def test_told_ones(self):
        told = [alike_many(cyclic(size)) for size in range(1, 7)]
        self.assertEqual(told, [1, 2, 12, 432, 17280, 5184000])
        self.assertEqual(alike_many(paired_table(4)), 144)
        self.assertEqual(alike_many(TABLE_OF_TURNS), 1728000)
        self.assertEqual(alike_many(cyclic(7)), 435456000)

    def test_all_unlike_forms_come_to_all_squares(self):
        numbers = Numbers(113)
        for size, forms, in_all in ((1, 1, 1), (2, 1, 2), (3, 1, 12), (4, 2, 576), (5, 2, 161280)):
            found = {plain_form(numbers.square(size)) for turn in range(40)} | {plain_form(cyclic(size))}
            self.assertEqual(len(found), forms)
            self.assertEqual(sum(alike_many(form) for form in found), in_all)

    def test_the_forms_of_size_six_come_to_all_squares(self):
        self.assertEqual(sum(alike_many(form) for form in FORMS_OF_SIX), 812851200)


if __name__ == "__main__":
    unittest.main()
