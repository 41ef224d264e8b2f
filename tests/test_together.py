"""What several modules promise together: squares exchanged along rings, renamed, turned, and their plain forms."""

import itertools
import unittest

from latinclose.alike import alike, kin
from latinclose.begun import check, is_whole
from latinclose.own import alike_many, own
from latinclose.parts import parts, put_in
from latinclose.plain import plain
from latinclose.renamings import behind, renamed, still, undone
from latinclose.rings import exchanged, rings
from latinclose.roles import turned
from samples import TURNS_OF_THREE, Numbers, cyclic, exchanged_tables, is_renaming, some_renamings, squares


class ExchangedRenamedAndTurned(unittest.TestCase):
    def journey(self, square, numbers):
        """Some exchanges along rings, of which each is seen to be undone by the same one once more."""
        for step in range(4):
            one, other = numbers.mixed(range(len(square)))[:2]
            for ring in rings(square, one, other)[:2]:
                changed = exchanged(square, one, other, ring[-1])
                self.assertEqual(exchanged(changed, one, other, ring[0]), square)
                square = changed
        return square

    def has_plain_form(self, square):
        self.assertIsNone(check(square))
        self.assertTrue(is_whole(square))
        form, renaming = plain(square)
        self.assertTrue(is_renaming(renaming, len(square)))
        self.assertEqual(renamed(square, renaming), form)
        self.assertEqual(plain(form)[0], form)
        return form

    def test_each_has_a_plain_form_and_is_alike_to_what_it_was_renamed_to(self):
        numbers = Numbers(137)
        met = set()
        for square in squares()[1::2] + exchanged_tables()[::2]:
            square = self.journey(square, numbers) if len(square) > 1 else square
            square = turned(square, TURNS_OF_THREE[numbers.below(6)])
            form = self.has_plain_form(square)
            for renaming in some_renamings(len(square), 2, 139 + len(square)):
                other = renamed(square, renaming)
                self.assertEqual(self.has_plain_form(other), form)
                self.assertEqual(renamed(square, alike(square, other)), other)
                self.assertEqual(renamed(other, alike(other, square)), square)
                self.assertEqual(alike_many(other), alike_many(square))
            met.add((len(square), form))
        self.assertEqual({size for size, form in met}, set(range(2, 7)))
        self.assertGreater(len(met), 10)

    def test_the_least_square_too(self):
        for roles in TURNS_OF_THREE:
            self.assertEqual(self.has_plain_form(turned(((0,),), roles)), ((0,),))

    def test_what_is_put_in_a_part_has_a_plain_form(self):
        for square in exchanged_tables()[::4]:
            for rows, columns in parts(square)[:3]:
                inner = turned(cyclic(len(rows)), (2, 1, 0))
                self.has_plain_form(put_in(square, rows, columns, inner))

    def test_alike_just_where_the_plain_forms_are_the_same(self):
        many = squares()[::5] + exchanged_tables()[::3]
        for one, other in itertools.product(many, repeat=2):
            told = alike(one, other)
            self.assertEqual(told is not None, plain(one)[0] == plain(other)[0])
            if told is not None:
                self.assertEqual(renamed(one, told), other)

    def test_renamings_between_alike_squares_differ_by_own_ones(self):
        for square in squares()[::4] + exchanged_tables()[::2]:
            renaming = some_renamings(len(square), 1, 149)[0]
            told = alike(square, renamed(square, renaming))
            self.assertIn(behind(renaming, undone(told)), own(square))
            self.assertIn(still(len(square)), own(square))

    def test_kin_both_ways(self):
        for square in squares()[::6] + exchanged_tables()[::4]:
            for roles in TURNS_OF_THREE:
                other = turned(square, roles)
                told = kin(square, other)
                self.assertLessEqual(told[0], roles)
                self.assertEqual(renamed(turned(square, told[0]), told[1]), other)
                self.assertIsNotNone(kin(other, square))
                self.assertEqual(len(own(other)), len(own(square)))


if __name__ == "__main__":
    unittest.main()
