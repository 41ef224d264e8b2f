import copy
import itertools
import unittest

from latinclose.pairings import lacking, paired


def has_pairing(lists):
    """Whether there is a pairing, by trying all picks."""
    reached = {frozenset()}
    for numbers in lists:
        reached = {taken | {number} for taken in reached for number in numbers if number not in taken}
    return bool(reached)


class Pairings(unittest.TestCase):
    def holds(self, lists, there_is):
        kept = copy.deepcopy(lists)
        pairing = paired(lists)
        paper = lacking(lists)
        self.assertEqual(lists, kept)
        self.assertEqual(paired(lists), pairing)
        self.assertEqual(lacking(lists), paper)
        if there_is:
            self.is_pairing(lists, pairing)
            self.assertIsNone(paper)
        else:
            self.assertIsNone(pairing)
            self.is_paper(lists, paper)

    def is_pairing(self, lists, pairing):
        self.assertIsInstance(pairing, list)
        self.assertEqual(len(pairing), len(lists))
        self.assertEqual(len(set(pairing)), len(pairing))
        for number, numbers in zip(pairing, lists):
            self.assertIn(number, numbers)

    def is_paper(self, lists, paper):
        self.assertIsInstance(paper, list)
        self.assertEqual(paper, sorted(set(paper)))
        for which in paper:
            self.assertIn(which, range(len(lists)))
        together = set()
        for which in paper:
            together |= set(lists[which])
        self.assertLess(len(together), len(paper))

    def test_no_list_at_all(self):
        self.assertEqual(paired([]), [])
        self.assertIsNone(lacking([]))

    def test_one_list(self):
        self.assertEqual(paired([[7]]), [7])
        self.assertIsNone(lacking([[7]]))
        self.assertIsNone(paired([[]]))
        self.assertEqual(lacking([[]]), [0])

    def test_an_empty_list_among_others(self):
        self.holds([[], [1, 2], [3]], False)
        self.holds([[1, 2], [], [3]], False)
        self.holds([[1, 2], [3], []], False)
        self.holds([[0], [], [], [0]], False)

    def test_eight_lists_of_eight_numbers(self):
        self.holds([list(range(8))] * 8, True)
        self.holds([list(range(which, which + 8)) for which in range(8)], True)
        self.holds([list(range(20, 12, -1)) for which in range(8)], True)

    def test_eight_lists_of_seven_numbers_between_them(self):
        self.holds([list(range(7))] * 8, False)
        self.holds([[20, 0, 19, 1, 18, 2, 17] for which in range(8)], False)

    def test_the_least_and_the_greatest_number(self):
        self.holds([[0], [20]], True)
        self.holds([[20, 0], [0]], True)
        self.holds([[0, 20], [20, 0]], True)
        self.holds([[0, 20], [20, 0], [0, 20]], False)
        self.assertEqual(paired([[0], [20]]), [0, 20])

    def test_lists_in_any_order(self):
        for lists in itertools.permutations([[3, 1, 2], [2], [2, 1]]):
            self.holds(list(lists), True)
        for lists in itertools.permutations([[5, 1], [9, 4, 2], [1, 5], [5]]):
            self.holds(list(lists), False)
        for numbers in itertools.permutations([0, 4, 20]):
            self.holds([list(numbers), [0], [4]], True)

    def test_an_earlier_pick_is_changed(self):
        self.assertEqual(paired([[1, 2], [1]]), [2, 1])
        self.assertEqual(paired([[0, 1], [1, 2], [2, 3], [3, 4], [4, 5], [5, 6], [6, 7], [0]]),
                         [1, 2, 3, 4, 5, 6, 7, 0])
        self.assertEqual(paired([[7, 6], [6, 5], [5, 4], [4, 3], [3, 2], [2, 1], [1, 0], [7]]),
                         [6, 5, 4, 3, 2, 1, 0, 7])

    def test_the_paper_needs_more_than_the_list_that_found_nothing(self):
        self.holds([[1, 2], [2, 3], [1], [2, 3]], False)
        self.holds([[9, 8], [1, 2], [3, 4, 9], [2, 1], [1, 2], [8]], False)
        self.assertEqual(lacking([[4], [5, 6], [4]]), [0, 2])

    def test_all_lists_of_few_numbers(self):
        choices = [list(numbers) for many in range(4) for numbers in itertools.combinations((0, 7, 20), many)]
        for many in range(5):
            for lists in itertools.product(choices, repeat=many):
                self.holds([list(numbers) for numbers in lists], has_pairing(lists))

    def test_many_greater_ones(self):
        told = {True: 0, False: 0}
        state = 1
        for turn in range(1500):
            lists = []
            for which in range(turn % 9):
                numbers = []
                state = (state * 48271) % 2147483647
                for step in range(state // 64 % (2 + turn % 4)):
                    state = (state * 48271) % 2147483647
                    number = state // 64 % (5 + turn % 17)
                    if number not in numbers:
                        numbers.append(number)
                lists.append(numbers)
            there_is = has_pairing(lists)
            told[there_is] += 1
            self.holds(lists, there_is)
        self.assertGreater(min(told.values()), 200)

    def test_told_lists_are_the_askers_own(self):
        lists = [[1, 2], [1]]
        told = paired(lists)
        told.append(5)
        told[0] = 9
        self.assertEqual(paired(lists), [2, 1])
        self.assertEqual(lists, [[1, 2], [1]])
        none = [[3], [3, 4], [4], [5, 6]]
        paper = lacking(none)
        kept = list(paper)
        paper.append(5)
        paper[0] = 9
        self.assertEqual(lacking(none), kept)
        self.assertEqual(none, [[3], [3, 4], [4], [5, 6]])
        empty = paired([])
        empty.append(1)
        self.assertEqual(paired([]), [])

    def test_what_is_handed_in_may_change_later(self):
        lists = [[1, 2], [1]]
        told = paired(lists)
        lists[0].remove(2)
        self.assertEqual(told, [2, 1])
        self.holds(lists, False)
        paper = lacking(lists)
        lists[0].append(0)
        self.assertEqual(paper, [0, 1])
        self.holds(lists, True)


if __name__ == "__main__":
    unittest.main()
