"""Points 2, 4, 5 and 20: growing."""

import random
import unittest

from bodies import GREAT, points, told, triangle
from cases import FieldTest
from fields import (grid, many_fields, rebuilt, settled, some_sums, soon, tied_triangle, told_carriers, told_field,
                    told_slim, with_gaps)
from slimbody.deeds import fold, grow
from slimbody.errors import BadRank, Full, NoCell, NotASum, OtherRank
from slimbody.field import Field

RANKS = [-1, -2, 12, 13, 100, GREAT, -GREAT]


def standing(count):
    """The tied triangle and points, that many cells in all; one number has gone."""
    field = tied_triangle()
    field.take(field.put(0, []))
    while len(field.cells()) < count:
        field.put(0, [])
    return field


class GrowTest(FieldTest):
    def assert_grown(self, field, rank, row):
        """The two new cells, their borders, the arrow, and all else as it was."""
        coming, rows, arrows = field.coming(), told(field)[1], field.arrows()
        slim, carried, cells, handed = told_slim(field), told_carriers(field), field.cells(), list(row)
        border = field.border_of(row)
        with soon():
            pair = grow(field, rank, handed)
        low, high = coming, coming + 1
        self.assertEqual(pair, (low, high))
        self.assertIs(pair.__class__, tuple)
        self.assertEqual(handed, row)
        self.assertEqual(field.cells(), cells + [low, high])
        self.assertEqual(field.coming(), coming + 2)
        self.assertEqual((field.rank(low), field.rank(high)), (rank, rank + 1))
        self.assertEqual((field.border(low), field.border(high)), (border, row + [low]))
        self.assertEqual([(cell, field.rank(cell), field.border(cell)) for cell in cells], [row[:3] for row in rows])
        self.assert_arrows(field, arrows + [(low, high)])
        self.assertEqual((told_slim(field), told_carriers(field, low, high)), (slim, carried))
        return low, high


class GrownTest(GrowTest):
    def test_over_nothing(self):
        field = Field()
        self.assertEqual(self.assert_grown(field, 0, []), (0, 1))
        self.assertEqual((field.border(0), field.border(1)), ([], [0]))
        self.assertEqual(field.counts(), [1, 1])
        self.assertEqual(self.assert_grown(field, 5, []), (2, 3))

    def test_points(self):
        field = triangle(Field)
        self.assertEqual(self.assert_grown(field, 0, [0, 2]), (7, 8))
        self.assertEqual((field.border(7), field.border(8)), ([], [0, 2, 7]))

    def test_stretches(self):
        field = triangle(Field)
        self.assertEqual(self.assert_grown(field, 1, [3, 4]), (7, 8))
        self.assertEqual((field.border(7), field.border(8)), ([1, 2], [3, 4, 7]))
        self.assertEqual(self.assert_grown(field, 1, [3, 4, 5]), (9, 10))
        self.assertEqual((field.border(9), field.border(10)), ([], [3, 4, 5, 9]))

    def test_each_rank(self):
        field = Field()
        for rank in range(12):
            cell = field.put(rank, [])
            self.assert_grown(field, rank, [cell])
        self.assertEqual(field.counts(), [2] + [3] * 11 + [1])

    def test_over_tied_cells(self):
        field = tied_triangle()
        for rank, row in ((0, [0, 1, 2]), (1, [3, 4]), (1, [3, 5]), (2, [6]), (0, [0])):
            self.assert_grown(field, rank, row)

    def test_over_what_was_grown(self):
        field = Field()
        grow(field, 0, [])
        self.assertEqual(self.assert_grown(field, 0, [0]), (2, 3))
        self.assertEqual(self.assert_grown(field, 1, [1, 3]), (4, 5))
        self.assertEqual((field.border(4), field.border(5)), ([2], [1, 3, 4]))

    def test_gaps(self):
        field = with_gaps(triangle(Field))
        self.assert_grown(field, 1, field.of_rank(1)[:2])
        field.take(field.put(0, []))
        self.assert_grown(field, 0, field.of_rank(0))

    def test_grown_and_folded(self):
        for field in many_fields():
            before = told_slim(field), told_carriers(field), field.cells(), field.arrows()
            low, high = grow(field, 1, field.of_rank(1))
            self.assertEqual(fold(field, low), high)
            self.assertEqual((told_slim(field), told_carriers(field), field.cells(), field.arrows()), before)

    def test_many_fields(self):
        for number, field in enumerate(many_fields()):
            for rank in range(4):
                for row in some_sums(field.of_rank(rank), random.Random(number), 2)[-3:]:
                    if len(field.cells()) < 30:
                        self.assert_grown(field, rank, row)

    def test_up_to_120_cells(self):
        field = Field()
        row = []
        for count in range(60):
            row.append(self.assert_grown(field, 0, row if count % 10 == 0 else row[-1:])[0])
        self.assertEqual(len(field.cells()), 120)
        self.assert_refused(Full, field, grow, field, 0, [])

    def test_great_fields(self):
        for field in (settled(grid(5, 5)), settled(with_gaps(grid(4, 5)))):
            for rank in (0, 1, 2):
                self.assert_grown(field, rank, field.of_rank(rank))


class RefusalsTest(GrowTest):
    def test_bad_rank(self):
        for rank in RANKS:
            for field in (Field(), tied_triangle()):
                self.assert_refused(BadRank, field, grow, field, rank, [])

    def test_the_highest_and_the_lowest_rank(self):
        for rank in (0, 11):
            self.assertEqual(grow(Field(), rank, []), (0, 1))

    def test_a_cell_of_rank_12(self):
        field = Field()
        field.put(12, [])
        self.assert_refused(BadRank, field, grow, field, 12, [0])
        self.assert_refused(OtherRank, field, grow, field, 11, [0])

    def test_not_a_sum(self):
        field = tied_triangle()
        for row in ([1, 0], [0, 0], [0, 2, 1], [0, 1, 1]):
            self.assert_refused(NotASum, field, grow, field, 0, row)

    def test_no_cell(self):
        field = standing(8)
        for cell in (-1, 7, 9, GREAT, -GREAT):
            self.assert_refused(NoCell, field, grow, field, 0, [cell])
            self.assert_refused(NoCell, field, grow, field, 0, sorted([0, cell]))
        self.assert_refused(NoCell, Field(), grow, Field(), 0, [0])

    def test_its_own_number_to_come(self):
        field = triangle(Field)
        self.assert_refused(NoCell, field, grow, field, 0, [7])
        self.assert_refused(NoCell, field, grow, field, 0, [0, 7])

    def test_other_rank(self):
        field = tied_triangle()
        for rank, row in ((0, [3]), (0, [0, 3]), (1, [0]), (1, [2, 3]), (1, [3, 6]), (2, [3]), (3, [6]), (11, [0])):
            self.assert_refused(OtherRank, field, grow, field, rank, row)

    def test_full(self):
        for count in (119, 120):
            field = standing(count)
            for rank, row in ((0, []), (0, [0, 1]), (1, [3, 4]), (11, [])):
                self.assert_refused(Full, field, grow, field, rank, row)

    def test_not_yet_full(self):
        for count in (117, 118):
            for rank, row in ((0, []), (0, [0, 1]), (1, [3, 4]), (11, [])):
                field = standing(count)
                self.assert_grown(field, rank, row)
                self.assert_refused(Full, field, grow, field, rank, row)

    def test_taken_away_cells_do_not_count(self):
        field = points(120, Field)
        field.take(3)
        self.assert_refused(Full, field, grow, field, 0, [])
        field.take(119)
        self.assertEqual(grow(field, 0, [0, 118]), (120, 121))


class OrderOfRefusalsTest(GrowTest):
    def test_bad_rank_first(self):
        for rank in RANKS:
            for field in (standing(9), standing(119), standing(120)):
                for row in ([1, 0], [GREAT, GREAT], [99999], [3], [0, 3], [0]):
                    self.assert_refused(BadRank, field, grow, field, rank, row)

    def test_then_not_a_sum(self):
        for field in (standing(9), standing(119), standing(120)):
            for row in ([99999, 0], [99999, 99999], [3, 3], [0, 3, 3], [4, 0], [-1, -2]):
                self.assert_refused(NotASum, field, grow, field, 0, row)

    def test_then_no_cell(self):
        for field in (standing(9), standing(119), standing(120)):
            for row in ([-1, 3], [3, 99999], [3, 7], [3, 6, 7], [99999]):
                self.assert_refused(NoCell, field, grow, field, 0, row)

    def test_then_other_rank(self):
        for field in (standing(9), standing(119), standing(120)):
            for row in ([3], [0, 3], [6]):
                self.assert_refused(OtherRank, field, grow, field, 0, row)

    def test_refused_and_then_done(self):
        field = triangle(Field)
        for rank, row in ((12, []), (0, [1, 0]), (0, [7]), (0, [3])):
            self.assertRaises(ValueError, grow, field, rank, row)
        self.assertEqual(field.coming(), 7)
        self.assertEqual(grow(field, 0, [0]), (7, 8))


class OwnTest(GrowTest):
    def test_the_list_handed_in_is_not_kept(self):
        field = triangle(Field)
        row = [3, 4]
        low, high = grow(field, 1, row)
        row.append(5)
        row[0] = 0
        self.assertEqual((field.border(low), field.border(high)), ([1, 2], [3, 4, 7]))

    def test_nothing_handed_in_is_not_kept(self):
        field = Field()
        row = []
        grow(field, 0, row)
        row.append(0)
        self.assertEqual((field.border(0), field.border(1)), ([], [0]))

    def test_told_borders_are_the_askers_own(self):
        field = triangle(Field)
        grow(field, 1, [3, 4])
        for cell in (7, 8):
            border = field.border(cell)
            field.border(cell).append(77)
            self.assertEqual(field.border(cell), border)

    def test_twins(self):
        field = triangle(Field)
        twin = field.twin()
        before = told_field(field)
        grow(twin, 0, [0])
        self.assertEqual(told_field(field), before)
        self.assertEqual(grow(field, 0, [0]), (7, 8))
        self.assertEqual(told_field(field), told_field(twin))

    def test_as_on_a_field_built_anew(self):
        for field in many_fields():
            grow(field, 0, field.of_rank(0))
            self.assertEqual(told_field(rebuilt(field)), told_field(field))


if __name__ == "__main__":
    unittest.main()
