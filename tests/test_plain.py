import copy
import unittest

from latinclose.plain import plain
from samples import (
    FORMS_OF_SIX, TABLE_OF_TURNS, WITHOUT_PARTS_OF_TWO, Numbers, all_renamings, all_squares, cyclic, exchanged_tables,
    is_renaming, is_square, paired_table, plain_exchanged, plain_form, plain_renamed, plain_rings, plain_turned,
    some_renamings, squares,
)

PLAIN_OF_FOUR = (
    ((0, 1, 2, 3), (1, 0, 3, 2), (2, 3, 0, 1), (3, 2, 1, 0)),
    ((0, 1, 2, 3), (1, 0, 3, 2), (2, 3, 1, 0), (3, 2, 0, 1)),
)


def small_squares():
    """All of the sizes 1 to 3, and of size 4 some, not yet in their plain form, of either form."""
    return all_squares(1) + all_squares(2) + all_squares(3) + all_squares(4)[::61] + (cyclic(4), paired_table(4))


def greater_squares():
    return tuple(square for square in squares() if len(square) > 4) + exchanged_tables()


def forms_of_six():
    """From a table along rings and by roles, as far as further plain forms are come to."""
    found = {plain(TABLE_OF_TURNS)[0]: True}
    waiting = list(found)
    while waiting:
        form = waiting.pop()
        onward = [plain_turned(form, (1, 0, 2)), plain_turned(form, (1, 2, 0))]
        for one in range(5):
            for other in range(one + 1, 6):
                circles = plain_rings(form, one, other)
                onward += [plain_exchanged(form, one, other, circle[0]) for circle in circles]
        for square in onward:
            told = plain(square)[0]
            if told not in found:
                found[told] = True
                waiting.append(told)
    return list(found)


class Plain(unittest.TestCase):
    def told(self, square):
        """What is told, once its kind is looked over and the renaming is seen to lead to the form."""
        kept = copy.deepcopy(square)
        told = plain(square)
        self.assertIs(told.__class__, tuple)
        self.assertEqual(len(told), 2)
        form, renaming = told
        self.assertTrue(is_square(form))
        for thing in [thing for row in form for thing in row]:
            self.assertIs(thing.__class__, int)
        self.assertTrue(is_renaming(renaming, len(square)))
        self.assertEqual(plain_renamed(square, renaming), form)
        self.assertEqual(plain(square), told)
        self.assertEqual(square, kept)
        return told

    def test_held_against_all_renamings_up_to_size_four(self):
        met = set()
        for square in small_squares():
            form = self.told(square)[0]
            self.assertEqual(form, min(plain_renamed(square, renaming) for renaming in all_renamings(len(square))))
            met.add(form)
        self.assertLessEqual(set(PLAIN_OF_FOUR), met)

    def test_greater_ones_held_against_a_plain_look(self):
        met = set()
        for square in greater_squares():
            form = self.told(square)[0]
            self.assertEqual(form, plain_form(square))
            met.add(form)
        self.assertEqual(len([form for form in met if len(form) == 5]), 2)
        self.assertGreater(len(met), 15)

    def test_no_renamed_one_is_ahead(self):
        for square in greater_squares():
            form = self.told(square)[0]
            for renaming in some_renamings(len(square), 60, 61):
                self.assertGreaterEqual(plain_renamed(square, renaming), form)
                self.assertGreaterEqual(plain_renamed(form, renaming), form)

    def test_the_plain_look_finds_what_all_renamings_do(self):
        for square in small_squares():
            self.assertEqual(
                plain_form(square), min(plain_renamed(square, renaming) for renaming in all_renamings(len(square)))
            )

    def test_renamed_ones_have_the_same_form(self):
        for square in squares() + exchanged_tables():
            form = plain(square)[0]
            for renaming in some_renamings(len(square), 5, 67):
                self.assertEqual(self.told(plain_renamed(square, renaming))[0], form)

    def test_the_forms_own_plain_form_is_itself(self):
        for square in squares() + exchanged_tables():
            form = plain(square)[0]
            self.assertEqual(self.told(form)[0], form)

    def test_told_ones(self):
        self.assertEqual(plain(((0,),)), (((0,),), ((0,), (0,), (0,))))
        self.assertEqual(plain(((1, 0), (0, 1)))[0], ((0, 1), (1, 0)))
        self.assertEqual(plain(((2, 0, 1), (1, 2, 0), (0, 1, 2)))[0], ((0, 1, 2), (1, 2, 0), (2, 0, 1)))
        self.assertEqual(plain(paired_table(4))[0], PLAIN_OF_FOUR[0])
        self.assertEqual(plain(cyclic(4))[0], PLAIN_OF_FOUR[1])
        self.assertEqual(plain(cyclic(5))[0], cyclic(5))
        self.assertEqual(plain(cyclic(6))[0], (
            (0, 1, 2, 3, 4, 5), (1, 0, 3, 2, 5, 4), (2, 3, 4, 5, 0, 1), (3, 2, 5, 4, 1, 0), (4, 5, 0, 1, 2, 3),
            (5, 4, 1, 0, 3, 2),
        ))
        self.assertEqual(plain(TABLE_OF_TURNS)[0], (
            (0, 1, 2, 3, 4, 5), (1, 0, 3, 2, 5, 4), (2, 4, 0, 5, 1, 3), (3, 5, 1, 4, 0, 2), (4, 2, 5, 0, 3, 1),
            (5, 3, 4, 1, 2, 0),
        ))
        self.assertEqual(plain(WITHOUT_PARTS_OF_TWO)[0][1], (1, 2, 0, 4, 5, 3))

    def test_all_squares_up_to_size_four(self):
        self.assertEqual({plain(square)[0] for square in all_squares(1)}, {((0,),)})
        self.assertEqual({plain(square)[0] for square in all_squares(2)}, {((0, 1), (1, 0))})
        self.assertEqual({plain(square)[0] for square in all_squares(3)}, {((0, 1, 2), (1, 2, 0), (2, 0, 1))})
        self.assertEqual({plain(square)[0] for square in all_squares(4)}, set(PLAIN_OF_FOUR))

    def test_there_are_twenty_two_forms_of_size_six(self):
        self.assertEqual(sorted(forms_of_six()), list(FORMS_OF_SIX))
        self.assertEqual(len(FORMS_OF_SIX), 22)
        for form in FORMS_OF_SIX:
            self.assertEqual(plain_form(form), form)
            self.assertEqual(self.told(form)[0], form)
            for renaming in some_renamings(6, 2, 131):
                self.assertEqual(self.told(plain_renamed(form, renaming))[0], form)

    def test_somewhat_greater_squares(self):
        numbers = Numbers(71)
        for square in (cyclic(7), numbers.square(7), cyclic(8)):
            form = self.told(square)[0]
            for renaming in some_renamings(len(square), 4, 73):
                self.assertGreaterEqual(plain_renamed(square, renaming), form)
                self.assertEqual(plain(plain_renamed(square, renaming))[0], form)


if __name__ == "__main__":
    unittest.main()
