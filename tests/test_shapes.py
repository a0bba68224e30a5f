"""Points 2 and 24: full and round bodies."""

import itertools
import unittest

from bodies import GREAT, told, triangle
from fields import evens
from slimbody.body import Body
from slimbody.errors import BadRank
from slimbody.rounds import filling, is_round
from slimbody.shapes import full_body, round_body


class ShapesTest(unittest.TestCase):
    def assert_refused(self, ask, number):
        with self.assertRaises(BadRank) as caught:
            ask(number)
        self.assertIs(caught.exception.__class__, BadRank)

    def assert_cells(self, body, ranks, borders):
        """The body has just cells of these ranks and borders, from 0."""
        self.assertIs(body.__class__, Body)
        self.assertEqual(body.cells(), list(range(len(ranks))))
        self.assertEqual(body.coming(), len(ranks))
        self.assertEqual([body.rank(cell) for cell in body.cells()], ranks)
        self.assertEqual([body.border(cell) for cell in body.cells()], borders)


class FullBodyTest(ShapesTest):
    def test_no_points(self):
        self.assert_cells(full_body(0), [], [])

    def test_one_and_two_points(self):
        self.assert_cells(full_body(1), [0], [[]])
        self.assert_cells(full_body(2), [0, 0, 1], [[], [], [0, 1]])

    def test_three_points(self):
        self.assertEqual(told(full_body(3)), told(triangle()))

    def test_four_points(self):
        self.assert_cells(full_body(4), [0] * 4 + [1] * 6 + [2] * 4 + [3], [
            [], [], [], [], [0, 1], [0, 2], [0, 3], [1, 2], [1, 3], [2, 3],
            [4, 5, 7], [4, 6, 8], [5, 6, 9], [7, 8, 9], [10, 11, 12, 13]])

    def test_all_by_words(self):
        for count in range(7):
            rows = [list(row) for length in range(1, count + 1)
                    for row in itertools.combinations(range(count), length)]
            borders = [sorted(rows.index(row[:place] + row[place + 1:]) for place in range(len(row)))
                       if len(row) > 1 else [] for row in rows]
            self.assertEqual(rows, sorted(rows, key=lambda row: (len(row), row)))
            self.assert_cells(full_body(count), [len(row) - 1 for row in rows], borders)

    def test_counts(self):
        self.assertEqual([full_body(count).counts() for count in (0, 1, 5, 6)],
                         [[], [1], [5, 10, 10, 5, 1], [6, 15, 20, 15, 6, 1]])

    def test_bad_rank(self):
        for count in (-1, -2, 7, 8, 100, GREAT, -GREAT):
            self.assert_refused(full_body, count)

    def test_each_is_the_askers_own(self):
        one, other = full_body(3), full_body(3)
        one.take(6)
        one.put(0, [])
        self.assertEqual(told(other), told(triangle()))
        self.assertEqual(told(full_body(3)), told(triangle()))


class RoundBodyTest(ShapesTest):
    def test_one_point(self):
        self.assert_cells(round_body(1), [0, 1], [[], []])

    def test_two_points(self):
        self.assert_cells(round_body(2), [0, 0, 1, 1], [[], [], [0, 1], [0, 1]])

    def test_three_points(self):
        self.assert_cells(round_body(3), [0] * 3 + [1] * 3, [[], [], [], [0, 1], [1, 2], [0, 2]])

    def test_all_by_words(self):
        for count in range(1, 61):
            borders = [evens(point, point + 1) for point in range(count - 1)] + [evens(count - 1, 0)]
            self.assert_cells(round_body(count), [0] * count + [1] * count, [[]] * count + borders)

    def test_a_round_without_filling(self):
        for count in (1, 2, 7, 60):
            body = round_body(count)
            stretches = body.of_rank(1)
            self.assertTrue(is_round(body, stretches))
            self.assertIsNone(filling(body, stretches))

    def test_the_greatest_is_full(self):
        self.assertEqual(len(round_body(60).cells()), 120)

    def test_bad_rank(self):
        for count in (0, -1, 61, 62, 100, GREAT, -GREAT):
            self.assert_refused(round_body, count)

    def test_each_is_the_askers_own(self):
        one = round_body(2)
        before = told(round_body(2))
        one.take(3)
        self.assertEqual(told(round_body(2)), before)


if __name__ == "__main__":
    unittest.main()
