"""Points 2 and 3."""

import itertools
import unittest

from slimbody.errors import NotASum
from slimbody.sums import added, evenly, is_sum, total

GREAT = 10 ** 5000
BAD_ROWS = [[1, 1], [2, 1], [0, 2, 1], [0, 1, 1, 2], [1, 0, 2], [0, -1], [-1, -1], [GREAT, GREAT], [GREAT, 0],
            [0, 1, 2, 3, 3], [3, 4, 5, 0], [0, 1, 0]]
ALL_SUMS = [list(row) for size in range(6) for row in itertools.combinations([-3, 0, 1, 4, GREAT], size)]


class IsSumTest(unittest.TestCase):
    def test_rising(self):
        for row in ([0], [5], [-7], [GREAT], [0, 1], [-2, -1, 0, 1], [0, 3, 9, 100], [-GREAT, 0, GREAT, GREAT + 1]):
            self.assertIs(is_sum(row), True)

    def test_nothing(self):
        self.assertIs(is_sum([]), True)

    def test_not_rising(self):
        for row in BAD_ROWS:
            self.assertIs(is_sum(row), False)

    def test_every_order(self):
        for row in itertools.product(range(4), repeat=4):
            rises = row[0] < row[1] < row[2] < row[3]
            self.assertIs(is_sum(list(row)), rises)

    def test_the_list_stays(self):
        row = [3, 1, 2]
        is_sum(row)
        self.assertEqual(row, [3, 1, 2])


class AddedTest(unittest.TestCase):
    def test_ordinary(self):
        self.assertEqual(added([0, 1, 4], [1, 2]), [0, 2, 4])
        self.assertEqual(added([1, 2], [0, 1, 4]), [0, 2, 4])
        self.assertEqual(added([5, 6], [0, 1]), [0, 1, 5, 6])

    def test_with_itself(self):
        row = [0, 3, 8]
        self.assertEqual(added(row, row), [])
        self.assertEqual(added([0, 3, 8], [0, 3, 8]), [])

    def test_with_nothing(self):
        self.assertEqual(added([2, 3], []), [2, 3])
        self.assertEqual(added([], [2, 3]), [2, 3])
        self.assertEqual(added([], []), [])

    def test_all_pairs(self):
        for one in ALL_SUMS:
            for other in ALL_SUMS:
                wanted = sorted([n for n in one if n not in other] + [n for n in other if n not in one])
                self.assertEqual(added(one, other), wanted)

    def test_refused(self):
        for bad in BAD_ROWS:
            for good in ([], [1], [0, 1], [GREAT]):
                self.assertRaises(NotASum, added, bad, good)
                self.assertRaises(NotASum, added, good, bad)
            self.assertRaises(NotASum, added, bad, bad)

    def test_lists_are_apart(self):
        one, other = [1, 2], []
        told = added(one, other)
        told.append(0)
        self.assertEqual((one, other), ([1, 2], []))
        self.assertEqual(added(one, other), [1, 2])
        one.append(9)
        self.assertEqual(told, [1, 2, 0])

    def test_refused_lists_stay(self):
        one, other = [2, 1], [1, 3]
        self.assertRaises(NotASum, added, one, other)
        self.assertEqual((one, other), ([2, 1], [1, 3]))


class TotalTest(unittest.TestCase):
    def test_none_one_many(self):
        self.assertEqual(total([]), [])
        self.assertEqual(total([[]]), [])
        self.assertEqual(total([[2, 5]]), [2, 5])
        self.assertEqual(total([[0, 1], [1, 2], [2, 3]]), [0, 3])
        self.assertEqual(total([[0, 1], [1, 2], [0, 2]]), [])

    def test_one_twice(self):
        twice = [1, 7]
        self.assertEqual(total([twice, [0, 7], twice]), [0, 7])
        self.assertEqual(total([[1, 7], [1, 7]]), [])

    def test_one_thrice(self):
        self.assertEqual(total([[1, 7], [1, 7], [1, 7]]), [1, 7])

    def test_told_rising(self):
        self.assertEqual(total([[GREAT], [9, 40], [-GREAT, 3]]), [-GREAT, 3, 9, 40, GREAT])

    def test_all_triples(self):
        for one, other, third in itertools.product(ALL_SUMS[::3], repeat=3):
            self.assertEqual(total([one, other, third]), added(added(one, other), third))

    def test_refused_at_any_place(self):
        for bad in BAD_ROWS:
            self.assertRaises(NotASum, total, [bad])
            self.assertRaises(NotASum, total, [bad, [0, 1]])
            self.assertRaises(NotASum, total, [[0, 1], bad])
            self.assertRaises(NotASum, total, [[0], bad, [2]])
            self.assertRaises(NotASum, total, [bad, bad])

    def test_lists_are_apart(self):
        rows = [[1, 2]]
        told = total(rows)
        told.append(0)
        self.assertEqual(rows, [[1, 2]])
        self.assertEqual(total(rows), [1, 2])
        rows[0].append(5)
        self.assertEqual(told, [1, 2, 0])


class EvenlyTest(unittest.TestCase):
    def test_even(self):
        for one, other in (([], []), ([1], []), ([], [1]), ([1], [2]), ([0, 1], [0, 1]), ([0, 1, 2], [1, 2, 3])):
            self.assertIs(evenly(one, other), True)

    def test_odd(self):
        for one, other in (([1], [1]), ([0, 1], [1, 2]), ([0, 1, 2], [0, 1, 2]), ([GREAT], [0, GREAT])):
            self.assertIs(evenly(one, other), False)

    def test_all_pairs(self):
        for one in ALL_SUMS:
            for other in ALL_SUMS:
                both = [number for number in one if number in other]
                self.assertIs(evenly(one, other), len(both) in (0, 2, 4))

    def test_refused(self):
        for bad in BAD_ROWS:
            for good in ([], [1], [0, 1]):
                self.assertRaises(NotASum, evenly, bad, good)
                self.assertRaises(NotASum, evenly, good, bad)
            self.assertRaises(NotASum, evenly, bad, bad)

    def test_the_lists_stay(self):
        one, other = [1, 2], [2, 3]
        evenly(one, other)
        self.assertEqual((one, other), ([1, 2], [2, 3]))


if __name__ == "__main__":
    unittest.main()
