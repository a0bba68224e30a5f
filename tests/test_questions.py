"""Points 4, 6 and 7: what a body tells."""

import itertools
import unittest

from bodies import GREAT, full, points, told, triangle
from slimbody.body import Body
from slimbody.errors import NoCell, NotASum


def with_a_gap(kind):
    """The triangle, and a cell 7 that has gone."""
    body = triangle(kind)
    body.put(0, [])
    body.take(7)
    return body


ABSENT = [-1, 7, 8, 9, GREAT, -GREAT]


class EmptyTest(unittest.TestCase):
    kind = Body

    def test_all(self):
        body = self.kind()
        self.assertEqual((body.cells(), body.counts(), body.coming()), ([], [], 0))
        self.assertEqual((body.of_rank(0), body.border_of([])), ([], []))
        self.assertIs(body.stands(0), False)

    def test_two_bodies_are_apart(self):
        one, other = self.kind(), self.kind()
        one.put(0, [])
        self.assertEqual((other.cells(), other.coming()), ([], 0))


class CellsTest(unittest.TestCase):
    kind = Body

    def test_stands(self):
        body = with_a_gap(self.kind)
        for cell in range(7):
            self.assertIs(body.stands(cell), True)
        for cell in ABSENT:
            self.assertIs(body.stands(cell), False)

    def test_cells_and_coming(self):
        body = with_a_gap(self.kind)
        self.assertEqual(body.cells(), [0, 1, 2, 3, 4, 5, 6])
        self.assertEqual(body.coming(), 8)
        self.assertEqual(body.put(0, []), 8)
        self.assertEqual(body.cells(), [0, 1, 2, 3, 4, 5, 6, 8])
        self.assertEqual(body.coming(), 9)

    def test_rank_and_border(self):
        body = with_a_gap(self.kind)
        self.assertEqual([body.rank(cell) for cell in range(7)], [0, 0, 0, 1, 1, 1, 2])
        self.assertEqual([body.border(cell) for cell in range(7)],
                         [[], [], [], [0, 1], [0, 2], [1, 2], [3, 4, 5]])

    def test_over(self):
        body = with_a_gap(self.kind)
        self.assertEqual([body.over(cell) for cell in range(7)],
                         [[3, 4], [3, 5], [4, 5], [6], [6], [6], []])
        body.put(2, [3, 4, 5])
        self.assertEqual(body.over(4), [6, 8])

    def test_no_cell(self):
        body = with_a_gap(self.kind)
        before = told(body)
        for ask in (body.rank, body.border, body.over):
            for cell in ABSENT:
                self.assertRaises(NoCell, ask, cell)
            self.assertRaises(NoCell, getattr(self.kind(), ask.__name__), 0)
        self.assertEqual(told(body), before)


class BorderOfTest(unittest.TestCase):
    kind = Body

    def test_ordinary(self):
        body = triangle(self.kind)
        self.assertEqual(body.border_of([]), [])
        self.assertEqual(body.border_of([0, 1]), [])
        self.assertEqual(body.border_of([3]), [0, 1])
        self.assertEqual(body.border_of([3, 4]), [1, 2])
        self.assertEqual(body.border_of([3, 4, 5]), [])
        self.assertEqual(body.border_of([6]), [3, 4, 5])

    def test_unlike_ranks(self):
        body = triangle(self.kind)
        self.assertEqual(body.border_of([0, 3]), [0, 1])
        self.assertEqual(body.border_of([3, 6]), [0, 1, 3, 4, 5])
        self.assertEqual(body.border_of([0, 1, 2, 3, 4, 5, 6]), [3, 4, 5])

    def test_border_of_a_border_is_nothing(self):
        body = triangle(self.kind)
        body.put(2, [3, 4, 5])
        body.put(3, [6, 7])
        body.put(1, [0, 1, 2])
        cells = body.cells()
        for size in range(len(cells) + 1):
            for row in itertools.combinations(cells, size):
                self.assertEqual(body.border_of(body.border_of(list(row))), [])

    def test_is_the_border_of_one_cell(self):
        body = triangle(self.kind)
        for cell in body.cells():
            self.assertEqual(body.border_of([cell]), body.border(cell))

    def test_not_a_sum(self):
        for row in ([0, 0], [1, 0], [3, 5, 4], [GREAT, GREAT]):
            self.assertRaises(NotASum, triangle(self.kind).border_of, row)

    def test_no_cell(self):
        body = with_a_gap(self.kind)
        for cell in ABSENT:
            self.assertRaises(NoCell, body.border_of, [cell])
            self.assertRaises(NoCell, body.border_of, sorted([3, cell]))

    def test_not_a_sum_ahead_of_no_cell(self):
        for row in ([99, 0], [99, 99], [0, -1], [GREAT, GREAT], [7, 3]):
            self.assertRaises(NotASum, with_a_gap(self.kind).border_of, row)

    def test_the_list_stays(self):
        row = [3, 4]
        triangle(self.kind).border_of(row)
        self.assertEqual(row, [3, 4])
        bad = [4, 3]
        self.assertRaises(NotASum, triangle(self.kind).border_of, bad)
        self.assertEqual(bad, [4, 3])


class RanksTest(unittest.TestCase):
    kind = Body

    def test_of_rank(self):
        body = with_a_gap(self.kind)
        self.assertEqual([body.of_rank(rank) for rank in range(4)], [[0, 1, 2], [3, 4, 5], [6], []])
        body.put(0, [])
        self.assertEqual(body.of_rank(0), [0, 1, 2, 8])

    def test_of_rank_of_any_number(self):
        for body in (self.kind(), triangle(self.kind), full(self.kind)):
            for rank in (-1, -2, -12, 12, 13, 14, 120, GREAT, -GREAT):
                self.assertEqual(body.of_rank(rank), [])

    def test_counts(self):
        body = with_a_gap(self.kind)
        self.assertEqual(body.counts(), [3, 3, 1])
        body.take(6)
        self.assertEqual(body.counts(), [3, 3])

    def test_counts_over_ranks_without_cells(self):
        body = self.kind()
        body.put(3, [])
        self.assertEqual(body.counts(), [0, 0, 0, 1])
        body.put(12, [])
        self.assertEqual(body.counts(), [0, 0, 0, 1] + [0] * 8 + [1])
        body.put(0, [])
        self.assertEqual(body.counts(), [1, 0, 0, 1] + [0] * 8 + [1])
        body.take(1)
        self.assertEqual(body.counts(), [1, 0, 0, 1])

    def test_counts_of_a_full_body(self):
        self.assertEqual(points(120, self.kind).counts(), [120])
        self.assertEqual(full(self.kind).counts(), [116, 3, 1])


class TwinTest(unittest.TestCase):
    kind = Body

    def test_the_same(self):
        for body in (self.kind(), triangle(self.kind), with_a_gap(self.kind), full(self.kind)):
            twin = body.twin()
            self.assertIs(twin.__class__, self.kind)
            self.assertIsNot(twin, body)
            self.assertEqual(told(twin), told(body))

    def test_the_twin_goes_its_own_way(self):
        body = with_a_gap(self.kind)
        before = told(body)
        twin = body.twin()
        self.assertEqual(twin.put(1, [0, 2]), 8)
        self.assertEqual(twin.put(0, []), 9)
        twin.take(6)
        twin.border(5).clear()
        self.assertEqual(told(body), before)
        self.assertEqual(twin.cells(), [0, 1, 2, 3, 4, 5, 8, 9])

    def test_the_body_goes_its_own_way(self):
        body = with_a_gap(self.kind)
        twin = body.twin()
        before = told(twin)
        body.take(6)
        body.take(3)
        self.assertEqual(body.put(1, [0]), 8)
        self.assertEqual(told(twin), before)
        self.assertEqual(twin.put(3, []), 8)
        self.assertEqual((body.rank(8), twin.rank(8)), (1, 3))

    def test_a_twin_of_a_twin(self):
        body = triangle(self.kind)
        twin = body.twin()
        third = twin.twin()
        twin.take(6)
        self.assertEqual(told(third), told(body))
        self.assertIs(third.stands(6), True)


class MethodsTest(unittest.TestCase):
    kind = Body

    def test_all_stand_in_the_class_itself(self):
        for name in ("put", "take", "stands", "cells", "coming", "rank", "border", "over", "border_of", "of_rank",
                     "counts", "twin"):
            self.assertIn(name, vars(self.kind))


if __name__ == "__main__":
    unittest.main()
