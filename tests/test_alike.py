import copy
import itertools
import unittest

from latinclose.alike import alike, kin
from samples import (
    TABLE_OF_TURNS, TURNS_OF_THREE, WITHOUT_PARTS_OF_TWO, Numbers, all_renamings, all_squares, cyclic,
    exchanged_tables, is_renaming, paired_table, plain_form, plain_renamed, plain_turned, some_renamings, squares,
)

# Of size 6: turned by roles it is alike to itself by some roles only.
ONE_SIDED = (
    (0, 1, 2, 3, 4, 5), (1, 0, 3, 2, 5, 4), (2, 3, 4, 5, 0, 1), (3, 4, 5, 1, 2, 0), (4, 5, 1, 0, 3, 2),
    (5, 2, 0, 4, 1, 3),
)

# Of size 7: alike to itself by the roles that go round, not by those that change two about.
ROUND = (
    (6, 3, 4, 2, 5, 1, 0), (5, 2, 1, 0, 3, 6, 4), (3, 1, 6, 4, 0, 5, 2), (1, 4, 0, 5, 2, 3, 6), (2, 6, 3, 1, 4, 0, 5),
    (4, 0, 5, 3, 6, 2, 1), (0, 5, 2, 6, 1, 4, 3),
)


def sizes_of_two():
    """One square of each size, for pairs of unlike sizes."""
    return list(itertools.permutations([cyclic(size) for size in range(1, 7)], 2))


def squares_of(size, many):
    found = [square for square in squares() + exchanged_tables() if len(square) == size]
    return found[::max(1, len(found) // many)][:many]


class Alike(unittest.TestCase):
    def leads(self, one, other):
        kept = copy.deepcopy((one, other))
        told = alike(one, other)
        self.assertTrue(is_renaming(told, len(one)))
        self.assertEqual(plain_renamed(one, told), other)
        self.assertEqual(alike(one, other), told)
        self.assertEqual((one, other), kept)

    def test_renamed_ones_are_alike(self):
        for square in squares() + exchanged_tables():
            for renaming in some_renamings(len(square), 2, 79):
                self.leads(square, plain_renamed(square, renaming))
                self.leads(plain_renamed(square, renaming), square)

    def test_by_any_renaming_of_small_sizes(self):
        for size in range(1, 4):
            for renaming in all_renamings(size):
                self.leads(all_squares(size)[-1], plain_renamed(all_squares(size)[-1], renaming))
        for renaming in all_renamings(4)[::37]:
            self.leads(cyclic(4), plain_renamed(cyclic(4), renaming))
            self.leads(paired_table(4), plain_renamed(paired_table(4), renaming))

    def test_a_square_is_alike_to_itself(self):
        for square in squares() + exchanged_tables():
            self.leads(square, square)

    def test_just_where_the_plain_forms_are_the_same(self):
        met = set()
        for size in range(1, 7):
            for one, other in itertools.product(squares_of(size, 12), repeat=2):
                same = plain_form(one) == plain_form(other)
                if same:
                    self.leads(one, other)
                else:
                    self.assertIsNone(alike(one, other))
                met.add((size, same))
        self.assertLessEqual({(size, True) for size in range(1, 7)}, met)
        self.assertLessEqual({(size, False) for size in range(4, 7)}, met)

    def test_all_squares_of_size_three_are_alike(self):
        for one, other in itertools.product(all_squares(3), repeat=2):
            self.leads(one, other)

    def test_size_four_held_against_all_renamings(self):
        for one in (cyclic(4), paired_table(4)):
            reached = {plain_renamed(one, renaming) for renaming in all_renamings(4)}
            for other in all_squares(4)[::7]:
                if other in reached:
                    self.leads(one, other)
                else:
                    self.assertIsNone(alike(one, other))

    def test_those_of_unlike_sizes_never_are(self):
        for one, other in sizes_of_two():
            self.assertIsNone(alike(one, other))

    def test_tables_that_are_not_alike(self):
        tables = (cyclic(6), TABLE_OF_TURNS, WITHOUT_PARTS_OF_TWO, ONE_SIDED)
        for one, other in itertools.permutations(tables, 2):
            self.assertIsNone(alike(one, other))
        self.assertIsNone(alike(cyclic(4), paired_table(4)))

    def test_somewhat_greater_squares(self):
        for square in (cyclic(7), Numbers(83).square(7), cyclic(8)):
            for renaming in some_renamings(len(square), 2, 89):
                self.leads(square, plain_renamed(square, renaming))
        self.assertIsNone(alike(cyclic(8), paired_table(8)))
        self.assertIsNone(alike(cyclic(7), cyclic(8)))


def plain_roles(one, other):
    """The first roles of all six, gone through in order, by which the plain forms are the same."""
    for roles in sorted(TURNS_OF_THREE):
        if plain_form(plain_turned(one, roles)) == plain_form(other):
            return roles
    return None


class Kin(unittest.TestCase):
    def holds(self, one, other):
        kept = copy.deepcopy((one, other))
        roles = plain_roles(one, other)
        told = kin(one, other)
        if roles is None:
            self.assertIsNone(told)
        else:
            self.assertIs(told.__class__, tuple)
            self.assertEqual(len(told), 2)
            self.assertIs(told[0].__class__, tuple)
            self.assertEqual(told[0], roles)
            self.assertTrue(is_renaming(told[1], len(one)))
            self.assertEqual(plain_renamed(plain_turned(one, roles), told[1]), other)
        self.assertEqual(kin(one, other), told)
        self.assertEqual((one, other), kept)
        return roles

    def test_squares_turned_by_all_six_roles_and_renamed(self):
        met = set()
        for square in exchanged_tables()[::2] + squares()[::5]:
            renaming = some_renamings(len(square), 1, 97)[0]
            for roles in TURNS_OF_THREE:
                met.add(self.holds(square, plain_renamed(plain_turned(square, roles), renaming)))
        self.assertEqual(met, set(sorted(TURNS_OF_THREE)[:5]))

    def test_one_that_is_alike_to_itself_by_some_roles_only(self):
        met = [self.holds(ONE_SIDED, plain_turned(ONE_SIDED, roles)) for roles in sorted(TURNS_OF_THREE)]
        self.assertEqual(len(set(met)), 3)
        for one, other in itertools.product(sorted(TURNS_OF_THREE), repeat=2):
            self.holds(plain_turned(ONE_SIDED, one), plain_turned(ONE_SIDED, other))

    def test_many_pairs(self):
        met = set()
        for size in range(1, 7):
            for one, other in itertools.product(squares_of(size, 8), repeat=2):
                met.add((size, self.holds(one, other) is None))
        self.assertLessEqual({(size, False) for size in range(1, 7)}, met)
        self.assertLessEqual({(size, True) for size in range(4, 7)}, met)

    def test_alike_ones_are_kin_by_the_still_roles(self):
        for square in squares() + exchanged_tables():
            for renaming in some_renamings(len(square), 2, 101):
                told = kin(square, plain_renamed(square, renaming))
                self.assertEqual(told[0], (0, 1, 2))
                self.assertEqual(plain_renamed(square, told[1]), plain_renamed(square, renaming))

    def test_those_of_unlike_sizes_never_are(self):
        for one, other in sizes_of_two():
            self.assertIsNone(kin(one, other))

    def test_tables_that_are_not_kin(self):
        tables = (cyclic(6), TABLE_OF_TURNS, WITHOUT_PARTS_OF_TWO, ONE_SIDED)
        for one, other in itertools.permutations(tables, 2):
            self.assertIsNone(kin(one, other))
        self.assertIsNone(kin(cyclic(4), paired_table(4)))

    def test_somewhat_greater_squares(self):
        square = Numbers(103).square(7)
        renaming = some_renamings(7, 1, 107)[0]
        for roles in TURNS_OF_THREE:
            told = kin(square, plain_renamed(plain_turned(square, roles), renaming))
            self.assertEqual(told[0], roles)
            self.assertEqual(
                plain_renamed(plain_turned(square, roles), told[1]),
                plain_renamed(plain_turned(square, roles), renaming),
            )
        self.assertIsNone(kin(cyclic(7), square))

    def test_of_several_roles_the_ones_ahead(self):
        told = [kin(ROUND, plain_turned(ROUND, roles)) for roles in sorted(TURNS_OF_THREE)]
        still, exchange = (0, 1, 2), (0, 2, 1)
        self.assertEqual([roles for roles, renaming in told], [still, exchange, exchange, still, still, exchange])


if __name__ == "__main__":
    unittest.main()
