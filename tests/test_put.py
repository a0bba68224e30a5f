"""Points 2, 4 and 5: putting cells in."""

import unittest

from bodies import GREAT, full, points, told, triangle
from slimbody.body import Body
from slimbody.errors import BadRank, Full, NoCell, NotASum, OpenBorder, OtherRank


class PutTest(unittest.TestCase):
    kind = Body

    def assert_refused(self, refusal, body, rank, border):
        before = told(body)
        row = list(border)
        with self.assertRaises(refusal) as caught:
            body.put(rank, row)
        self.assertIs(caught.exception.__class__, refusal)
        self.assertEqual(row, border)
        self.assertEqual(told(body), before)


class NumbersTest(PutTest):
    def test_numbers_in_order(self):
        body = self.kind()
        self.assertEqual([body.put(0, []) for _ in range(4)], [0, 1, 2, 3])
        self.assertEqual(body.put(1, [0, 3]), 4)
        self.assertEqual(body.put(7, []), 5)
        self.assertEqual(body.cells(), [0, 1, 2, 3, 4, 5])

    def test_triangle(self):
        body = triangle(self.kind)
        self.assertEqual(body.cells(), [0, 1, 2, 3, 4, 5, 6])
        self.assertEqual([body.rank(cell) for cell in body.cells()], [0, 0, 0, 1, 1, 1, 2])
        self.assertEqual(body.border(6), [3, 4, 5])

    def test_a_refused_one_takes_no_number(self):
        body = triangle(self.kind)
        self.assert_refused(BadRank, body, 13, [])
        self.assert_refused(OpenBorder, body, 2, [3])
        self.assertEqual(body.put(0, []), 7)

    def test_many_numbers(self):
        body = self.kind()
        for number in range(500):
            self.assertEqual(body.put(0, []), number)
            body.take(number)
        self.assertEqual(body.coming(), 500)
        self.assertEqual(body.cells(), [])


class RanksTest(PutTest):
    def test_nothing_at_any_rank(self):
        body = self.kind()
        for rank in range(13):
            self.assertEqual(body.put(rank, []), rank)
            self.assertEqual(body.rank(rank), rank)
            self.assertEqual(body.border(rank), [])

    def test_edges(self):
        for body in (self.kind(), triangle(self.kind)):
            for rank in (-1, 13, -2, 14, GREAT, -GREAT):
                self.assert_refused(BadRank, body, rank, [])

    def test_rank_twelve_with_a_border(self):
        body = self.kind()
        low = body.put(11, [])
        self.assertEqual(body.put(12, [low]), 1)
        self.assertEqual(body.border(1), [0])
        self.assert_refused(BadRank, body, 13, [1])


class RefusalsTest(PutTest):
    def test_not_a_sum(self):
        for border in ([0, 0], [1, 0], [0, 2, 1], [GREAT, 0]):
            self.assert_refused(NotASum, triangle(self.kind), 1, border)
        self.assert_refused(NotASum, triangle(self.kind), 2, [3, 5, 4])

    def test_no_cell(self):
        body = triangle(self.kind)
        body.put(0, [])
        body.take(7)
        for border in ([-1], [7], [8], [9], [GREAT], [-GREAT], [-1, 0], [0, 7], [0, 1, GREAT]):
            self.assert_refused(NoCell, body, 1, border)

    def test_no_cell_in_an_empty_body(self):
        for rank in (0, 1, 12):
            self.assert_refused(NoCell, self.kind(), rank, [0])

    def test_other_rank(self):
        body = triangle(self.kind)
        for rank, border in ((0, [0]), (0, [3]), (1, [3]), (1, [6]), (1, [0, 3]), (2, [0]), (2, [0, 1, 2]), (2, [6]),
                             (3, [3, 4, 5]), (2, [2, 3, 4, 5]), (12, [6])):
            self.assert_refused(OtherRank, body, rank, border)

    def test_open_border(self):
        for border in ([3], [4], [3, 4], [3, 5], [4, 5]):
            self.assert_refused(OpenBorder, triangle(self.kind), 2, border)
        self.assert_refused(OpenBorder, triangle(self.kind), 3, [6])

    def test_shut_borders(self):
        body = triangle(self.kind)
        self.assertEqual(body.put(2, [3, 4, 5]), 7)
        self.assertEqual(body.put(3, [6, 7]), 8)
        self.assertEqual(body.put(1, [0]), 9)
        self.assertEqual(body.put(1, [0, 1, 2]), 10)
        self.assert_refused(OpenBorder, body, 2, [9, 10])
        self.assertEqual(body.put(1, []), 11)
        self.assertEqual(body.put(2, [11]), 12)
        self.assertEqual(body.put(2, [3, 4, 5, 11]), 13)

    def test_full(self):
        body = points(119, self.kind)
        self.assertEqual(body.put(0, []), 119)
        for rank, border in ((0, []), (12, []), (1, []), (1, [0, 119])):
            self.assert_refused(Full, body, rank, border)
        self.assertEqual(len(body.cells()), 120)

    def test_full_counts_standing_cells_only(self):
        body = points(120, self.kind)
        body.take(5)
        self.assertEqual(body.put(0, []), 120)
        self.assert_refused(Full, body, 0, [])


class OrderOfRefusalsTest(PutTest):
    def test_all_due(self):
        body = full(self.kind)
        self.assert_refused(BadRank, body, 13, [3, 200, 0, 0])
        self.assert_refused(BadRank, body, -1, [3, 200, 0, 0])
        self.assert_refused(NotASum, body, 2, [3, 200, 0, 0])
        self.assert_refused(NoCell, body, 2, [0, 3, 200])
        self.assert_refused(OtherRank, body, 2, [0, 3])
        self.assert_refused(OpenBorder, body, 2, [3])
        self.assert_refused(Full, body, 2, [3, 4, 5])

    def test_bad_rank_first(self):
        body = triangle(self.kind)
        for rank in (-1, 13):
            for border in ([1, 0], [99], [0], [3]):
                self.assert_refused(BadRank, body, rank, border)
        self.assert_refused(BadRank, points(120, self.kind), 13, [])

    def test_not_a_sum_then(self):
        body = triangle(self.kind)
        self.assert_refused(NotASum, body, 1, [99, 0])
        self.assert_refused(NotASum, body, 0, [1, 0])
        self.assert_refused(NotASum, body, 2, [4, 3])
        self.assert_refused(NotASum, points(120, self.kind), 1, [1, 1])

    def test_no_cell_then(self):
        body = triangle(self.kind)
        self.assert_refused(NoCell, body, 1, [3, 99])
        self.assert_refused(NoCell, body, 1, [-1, 3])
        self.assert_refused(NoCell, body, 0, [99])
        self.assert_refused(NoCell, body, 2, [3, 99])
        self.assert_refused(NoCell, points(120, self.kind), 1, [120])

    def test_other_rank_then(self):
        self.assert_refused(OtherRank, triangle(self.kind), 2, [3, 6])
        self.assert_refused(OtherRank, triangle(self.kind), 2, [0, 3, 4, 5])
        self.assert_refused(OtherRank, points(120, self.kind), 0, [0])
        self.assert_refused(OtherRank, points(120, self.kind), 2, [0])

    def test_open_border_ahead_of_full(self):
        self.assert_refused(OpenBorder, full(self.kind), 2, [3, 4])


class ListsTest(PutTest):
    def test_the_border_is_not_changed(self):
        body = points(2, self.kind)
        row = [0, 1]
        body.put(1, row)
        self.assertEqual(row, [0, 1])

    def test_the_border_is_not_kept(self):
        body = points(3, self.kind)
        row = [0, 1]
        cell = body.put(1, row)
        before = told(body)
        row.append(2)
        self.assertEqual(told(body), before)
        row.clear()
        self.assertEqual(told(body), before)
        self.assertEqual(body.border(cell), [0, 1])

    def test_one_list_for_two_cells(self):
        body = points(2, self.kind)
        row = [0, 1]
        self.assertEqual([body.put(1, row), body.put(1, row)], [2, 3])
        body.border(2).clear()
        self.assertEqual(body.border(3), [0, 1])

    def test_told_lists_are_the_askers_own(self):
        body = triangle(self.kind)
        before = told(body)
        for row in (body.cells(), body.border(6), body.border(0), body.over(0), body.over(6), body.border_of([3]),
                    body.of_rank(0), body.of_rank(5), body.counts()):
            row.append(3)
            row.insert(0, 77)
            self.assertEqual(told(body), before)
            row.clear()
            self.assertEqual(told(body), before)

    def test_a_told_border_can_be_put_in_again(self):
        body = triangle(self.kind)
        row = body.border(6)
        cell = body.put(2, row)
        row.pop()
        self.assertEqual(body.border(6), [3, 4, 5])
        self.assertEqual(body.border(cell), [3, 4, 5])


if __name__ == "__main__":
    unittest.main()
