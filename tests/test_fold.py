"""Points 2, 4 and 20: folding."""

import unittest

from bodies import GREAT, told, triangle
from cases import FieldTest
from fields import (full_field, grid, many_fields, rebuilt, row_of_points, settled, soon, tied_row, tied_triangle,
                    told_carriers, told_field, told_slim, with_gaps)
from slimbody.deeds import fold, settle
from slimbody.errors import BodyError, Covered, NoCell, NotTied
from slimbody.field import Field


def is_free(field, low):
    """Point 20: no cell other than the head is over the tail, and none over the head."""
    high = field.head_of(low)
    return all(cell == high for cell in field.over(low)) and not field.over(high)


def without(rows, *cells):
    """A field's rows of numbers, ranks and borders without those of some cells."""
    return [row[:3] for row in rows if row[0] not in cells]


class FoldTest(FieldTest):
    def assert_folded(self, field, low):
        """The head told, the cells, borders, arrows and numbers behind it."""
        high, rows, arrows, coming = field.head_of(low), told(field)[1], field.arrows(), field.coming()
        slim, carried = told_slim(field), told_carriers(field, low, high)
        with soon():
            self.assertEqual(fold(field, low), high)
        self.assertEqual(without(told(field)[1]), without(rows, low, high))
        self.assertEqual((field.stands(low), field.stands(high)), (False, False))
        self.assert_arrows(field, [pair for pair in arrows if pair != (low, high)])
        self.assertEqual(field.coming(), coming)
        for cell in field.cells():
            self.assertEqual(field.over(cell), [upper for upper in field.cells() if cell in field.border(upper)])
        self.assertEqual((told_slim(field), told_carriers(field)), (slim, carried))
        return high


class FoldedTest(FoldTest):
    def test_a_row_of_points(self):
        field = row_of_points(3)
        field.tie(0, 3)
        self.assertEqual(self.assert_folded(field, 0), 3)
        self.assertEqual((field.cells(), field.arrows(), field.coming()), ([1, 2, 4], [], 5))
        self.assertEqual(field.border(4), [1, 2])

    def test_all_of_a_row(self):
        field = tied_row(6)
        field.tie(0, 6)
        for low in range(5):
            self.assertEqual(self.assert_folded(field, low), low + 6)
        self.assertEqual(field.cells(), [5])
        self.assertEqual(field.coming(), 11)

    def test_triangle(self):
        field = triangle(Field)
        field.tie(4, 6)
        self.assertEqual(self.assert_folded(field, 4), 6)
        self.assertEqual(field.cells(), [0, 1, 2, 3, 5])

    def test_a_whole_body_to_one_point(self):
        for field in (triangle(Field), full_field(4), full_field(5), full_field(6), with_gaps(full_field(4))):
            settle(field)
            while field.tails():
                self.assert_folded(field, [low for low in field.tails() if is_free(field, low)][0])
            self.assertEqual(len(field.cells()), 1)

    def test_a_pair_that_stands_alone(self):
        field = Field()
        field.put(11, [])
        field.put(12, [0])
        field.tie(0, 1)
        self.assertEqual(self.assert_folded(field, 0), 1)
        self.assertEqual((field.cells(), field.counts(), field.coming()), ([], [], 2))

    def test_the_numbers_do_not_come_again(self):
        field = row_of_points(2)
        field.tie(1, 2)
        fold(field, 1)
        self.assertEqual(field.put(0, []), 3)
        self.assertEqual(field.put(1, [0, 3]), 4)
        field.tie(3, 4)
        self.assertEqual(fold(field, 3), 4)
        self.assertEqual((field.cells(), field.coming()), ([0], 5))

    def test_gaps(self):
        field = with_gaps(row_of_points(3))
        cells = field.cells()
        field.tie(cells[2], cells[4])
        self.assertEqual(self.assert_folded(field, cells[2]), cells[4])

    def test_cells_that_were_covered_are_free(self):
        field = row_of_points(3)
        field.tie(0, 3)
        field.tie(1, 4)
        self.assert_refused(Covered, field, fold, field, 1)
        fold(field, 0)
        self.assertEqual(self.assert_folded(field, 1), 4)

    def test_room_again(self):
        field = tied_row(60)
        field.tie(0, 60)
        field.put(0, [])
        fold(field, 0)
        for number in (120, 121):
            self.assertEqual(field.put(0, []), number)

    def test_many_fields(self):
        folded = 0
        for field in many_fields():
            for low in field.tails():
                if is_free(field, low):
                    self.assert_folded(field.twin(), low)
                    folded += 1
        self.assertGreater(folded, 50)

    def test_one_behind_the_other(self):
        for field in many_fields() + [settled(grid(5, 6))]:
            free = [low for low in field.tails() if is_free(field, low)]
            while free:
                self.assert_folded(field, free[-1])
                free = [low for low in field.tails() if is_free(field, low)]


class RefusalsTest(FoldTest):
    def test_no_cell(self):
        field = tied_triangle()
        field.take(field.put(0, []))
        for cell in (-1, 7, 8, GREAT, -GREAT):
            self.assert_refused(NoCell, field, fold, field, cell)
        self.assert_refused(NoCell, Field(), fold, Field(), 0)

    def test_not_tied(self):
        field = tied_triangle()
        for cell in (2, 3, 4, 5, 6):
            self.assert_refused(NotTied, field, fold, field, cell)

    def test_covered_at_the_tail(self):
        field = row_of_points(3)
        field.tie(1, 3)
        self.assert_refused(Covered, field, fold, field, 1)
        field.take(4)
        self.assertEqual(self.assert_folded(field, 1), 3)

    def test_covered_at_the_head(self):
        field = triangle(Field)
        field.take(6)
        field.take(5)
        field.put(2, [])
        field.tie(1, 3)
        self.assertEqual(self.assert_folded(field.twin(), 1), 3)
        field.put(1, [0, 2])
        field.put(2, [4, 8])
        self.assertEqual(self.assert_folded(field.twin(), 1), 3)
        field.put(1, [0, 1])
        field.put(2, [3, 10])
        self.assert_refused(Covered, field, fold, field, 1)
        field.take(11)
        self.assert_refused(Covered, field, fold, field, 1)
        field.take(10)
        self.assertEqual(self.assert_folded(field, 1), 3)

    def test_cells_of_other_ranks_that_are_over_none_of_the_two(self):
        field = Field()
        field.put(0, [])
        field.put(1, [0])
        field.put(2, [])
        field.tie(0, 1)
        self.assertEqual(self.assert_folded(field.twin(), 0), 1)
        field = Field()
        for rank, border in ((1, []), (2, [0]), (1, []), (2, [2])):
            field.put(rank, border)
        field.tie(0, 1)
        self.assertEqual(self.assert_folded(field.twin(), 0), 1)

    def test_covered_by_a_lower_or_a_higher_number(self):
        field = Field()
        field.put(0, [])
        field.put(1, [0])
        field.put(1, [0])
        field.tie(0, 2)
        self.assert_refused(Covered, field, fold, field, 0)
        field.untie(0)
        field.tie(0, 1)
        self.assert_refused(Covered, field, fold, field, 0)

    def test_refused_and_then_done_otherwise(self):
        field = row_of_points(3)
        field.tie(1, 3)
        self.assert_refused(Covered, field, fold, field, 1)
        self.assertEqual(field.untie(1), 3)
        field.tie(0, 3)
        self.assertEqual(self.assert_folded(field, 0), 3)

    def test_many_fields(self):
        refused = 0
        for field in many_fields():
            for cell in field.cells():
                if cell not in field.tails():
                    self.assert_refused(NotTied, field, fold, field, cell)
                elif not is_free(field, cell):
                    self.assert_refused(Covered, field, fold, field, cell)
                    refused += 1
        self.assertGreater(refused, 50)


class OwnTest(FoldTest):
    def test_twins(self):
        field = row_of_points(3)
        field.tie(0, 3)
        twin = field.twin()
        before = told_field(field)
        fold(twin, 0)
        self.assertEqual(told_field(field), before)
        self.assertEqual(fold(field, 0), 3)
        self.assertEqual(told_field(field), told_field(twin))

    def test_as_on_a_field_built_anew(self):
        for field in many_fields():
            for low in field.tails():
                try:
                    fold(field, low)
                except BodyError:
                    continue
                self.assertEqual(told_field(rebuilt(field)), told_field(field))


if __name__ == "__main__":
    unittest.main()
