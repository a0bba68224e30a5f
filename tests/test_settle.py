"""Points 2, 9 and 12: settling."""

import random
import unittest

from bodies import points, triangle
from cases import FieldTest
from fields import (closed_row, dense, fan, full_field, grid, many_fields, pairs_by_words, rebuilt, retied,
                    row_of_points, soon, tied_row, tied_triangle, told_field, with_gaps)
from slimbody.deeds import settle
from slimbody.errors import BodyError
from slimbody.field import Field


class SettleTest(FieldTest):
    def assert_settled(self, field):
        """The pairs, the cells and the arrows behind it go with the words of point 12."""
        by_words = field.twin()
        pairs = pairs_by_words(by_words)
        with soon():
            self.assertEqual(settle(field), pairs)
        self.assertEqual(told_field(field), told_field(by_words))
        self.assertEqual(sorted(field.order()), field.tails())

    def test_triangle(self):
        field = triangle(Field)
        self.assertEqual(settle(field), [(0, 3), (1, 5), (4, 6)])
        self.assert_arrows(field, [(0, 3), (1, 5), (4, 6)])
        self.assertEqual(field.lone(), [2])

    def test_pairs_are_tuples_in_a_list(self):
        pairs = settle(triangle(Field))
        self.assertIs(pairs.__class__, list)
        for pair in pairs:
            self.assertIs(pair.__class__, tuple)

    def test_without_cells(self):
        self.assertEqual(settle(Field()), [])

    def test_points_alone(self):
        field = points(120, Field)
        self.assertEqual(settle(field), [])
        self.assert_arrows(field, [])

    def test_the_first_high_one_that_is_free(self):
        field = points(2, Field)
        for _ in range(3):
            field.put(1, [0, 1])
        self.assertEqual(settle(field), [(0, 2)])
        field = points(2, Field)
        for border in ([0], [0], [1], [1]):
            field.put(1, border)
        field.tie(0, 2)
        field.untie(0)
        self.assertEqual(settle(field), [(0, 2), (1, 4)])

    def test_a_later_high_one_where_the_first_makes_a_ring(self):
        field = points(3, Field)
        for border in ([0, 1], [0, 1], [1, 2]):
            field.put(1, border)
        self.assertEqual(settle(field), [(0, 3), (1, 5)])

    def test_low_cells_by_number_and_not_by_rank(self):
        field = Field()
        for rank, border in ((1, []), (2, [0]), (0, []), (1, [2]), (1, [2])):
            field.put(rank, border)
        self.assertEqual(settle(field), [(0, 1), (2, 3)])

    def test_some_arrows_already(self):
        field = triangle(Field)
        field.tie(2, 4)
        self.assertEqual(settle(field), [(0, 3), (5, 6)])
        self.assert_arrows(field, [(0, 3), (2, 4), (5, 6)])
        field = triangle(Field)
        field.tie(3, 6)
        self.assertEqual(settle(field), [(0, 4), (1, 5)])
        field = tied_triangle()
        self.assertEqual(settle(field), [(4, 6)])

    def test_a_low_cell_that_is_a_head_already(self):
        field = triangle(Field)
        field.tie(1, 3)
        self.assertEqual(settle(field), [(0, 4), (5, 6)])

    def test_rows_of_points(self):
        self.assertEqual(settle(row_of_points(5)), [(0, 5), (1, 6), (2, 7), (3, 8)])
        self.assertEqual(settle(closed_row(4)), [(0, 4), (1, 5), (2, 6)])
        self.assertEqual(settle(closed_row(1)), [])
        self.assertEqual(settle(tied_row(4)), [(0, 4)])

    def test_gaps(self):
        field = with_gaps(triangle(Field))
        cells = field.cells()
        self.assertEqual(settle(field), [(cells[low], cells[high]) for low, high in ((0, 3), (1, 5), (4, 6))])

    def test_many_fields(self):
        for field in many_fields():
            self.assert_settled(field)

    def test_some_arrows_already_on_many_fields(self):
        for number, field in enumerate(many_fields()):
            chance = random.Random(number)
            for low in field.tails():
                if chance.randrange(2):
                    field.untie(low)
            self.assert_settled(field)

    def test_settled_once_more(self):
        for field in many_fields() + [triangle(Field), grid(5, 6), full_field(6), dense(60, 60, 1)]:
            settle(field)
            before = told_field(field)
            self.assertEqual(settle(field), [])
            self.assertEqual(told_field(field), before)

    def test_untied_and_settled_again(self):
        field = triangle(Field)
        settle(field)
        field.untie(1)
        self.assertEqual(settle(field), [(1, 5)])
        field.untie(0)
        field.untie(4)
        self.assertEqual(settle(field), [(0, 3), (4, 6)])

    def test_no_pair_can_be_tied_behind_it(self):
        for field in many_fields():
            settle(field)
            for low in field.cells():
                for high in field.over(low):
                    self.assertRaises(BodyError, field.tie, low, high)

    def test_the_told_list_is_the_askers_own(self):
        field = triangle(Field)
        pairs = settle(field)
        before = told_field(field)
        pairs.append((2, 5))
        pairs.pop(0)
        self.assertEqual(told_field(field), before)
        self.assertEqual(settle(field), [])
        self.assertEqual(told_field(field), before)

    def test_twins(self):
        field = triangle(Field)
        twin = field.twin()
        settle(twin)
        self.assert_arrows(field, [])
        self.assertEqual(settle(field), [(0, 3), (1, 5), (4, 6)])

    def test_put_in_behind_it(self):
        field = triangle(Field)
        settle(field)
        self.assertEqual(field.put(1, [2]), 7)
        self.assertEqual(settle(field), [(2, 7)])

    def test_behind_other_deeds_as_on_a_field_built_anew(self):
        for field in many_fields():
            retied(field)
            self.assertEqual(settle(rebuilt(field)), settle(field))

    def test_soon(self):
        everywhere = points(60, Field)
        for _ in range(60):
            everywhere.put(1, list(range(60)))
        for field in (dense(60, 60, 1), dense(40, 80, 2), dense(80, 40, 3), everywhere, fan(59), row_of_points(60),
                      closed_row(60), grid(5, 6), full_field(6)):
            self.assert_settled(field)


if __name__ == "__main__":
    unittest.main()
