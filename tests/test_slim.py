"""Points 2 and 18: slim bodies."""

import unittest

from bodies import GREAT, points, told, triangle
from cases import FieldTest
from fields import (closed_row, evens, fan, full_field, grid, many_fields, settled, soon, tied_row, tied_triangle,
                    told_field, with_gaps)
from slimbody.body import Body
from slimbody.carry import slim_border
from slimbody.field import Field
from slimbody.roads import roads
from slimbody.slim import slim_body


def tied_pairs(count):
    """Points, each tied to a stretch of its own: no cell is lone."""
    field = Field()
    for pair in range(count):
        field.put(0, [])
        field.put(1, [2 * pair])
        field.tie(2 * pair, 2 * pair + 1)
    return field


class SlimTest(FieldTest):
    def assert_slim(self, field):
        """What is told goes with the words of point 18; the borders also by point 17's last sentence."""
        before = told_field(field)
        with soon():
            slim = slim_body(field)
        self.assertEqual(told_field(field), before)
        self.assertIs(slim.__class__, tuple)
        body, names = slim
        self.assertIs(body.__class__, Body)
        self.assertIs(names.__class__, list)
        self.assertEqual(names, [cell for rank in range(13) for cell in field.of_rank(rank) if cell in field.lone()])
        self.assertEqual(body.cells(), list(range(len(names))))
        self.assertEqual(body.coming(), len(names))
        for number, name in enumerate(names):
            self.assertEqual(body.rank(number), field.rank(name))
            border = [names[face] for face in body.border(number)]
            self.assertEqual(border, slim_border(field, [name]))
            self.assertEqual(sorted(border), [low for low in field.lone() if roads(field, name, low) % 2 == 1])


class SlimBodyTest(SlimTest):
    def test_triangle(self):
        field = tied_triangle()
        self.assert_slim(field)
        body, names = slim_body(field)
        self.assertEqual(names, [2, 4, 6])
        self.assertEqual([body.border(cell) for cell in (0, 1, 2)], [[], [], [1]])
        self.assertEqual(body.counts(), [1, 1, 1])

    def test_one_arrow(self):
        field = triangle(Field)
        field.tie(0, 3)
        self.assert_slim(field)
        body, names = slim_body(field)
        self.assertEqual(names, [1, 2, 4, 5, 6])
        self.assertEqual([body.border(cell) for cell in body.cells()], [[], [], [0, 1], [0, 1], [2, 3]])

    def test_names_by_rank_and_then_by_number(self):
        field = Field()
        for rank, border in ((1, []), (0, []), (2, [0]), (0, []), (1, [1, 3]), (0, []), (1, [3, 5]), (12, []), (1, [])):
            field.put(rank, border)
        self.assert_slim(field)
        body, names = slim_body(field)
        self.assertEqual(names, [1, 3, 5, 0, 4, 6, 8, 2, 7])
        self.assertEqual([body.rank(cell) for cell in body.cells()], [0, 0, 0, 1, 1, 1, 1, 2, 12])
        self.assertEqual([body.border(cell) for cell in body.cells()], [[], [], [], [], [0, 1], [1, 2], [], [3], []])
        field.tie(3, 6)
        self.assert_slim(field)
        body, names = slim_body(field)
        self.assertEqual(names, [1, 5, 0, 4, 8, 2, 7])
        self.assertEqual([body.border(cell) for cell in body.cells()], [[], [], [], [0, 1], [], [2], []])

    def test_without_arrows(self):
        for field in (triangle(Field), full_field(4), closed_row(1)):
            self.assert_slim(field)
            body, names = slim_body(field)
            self.assertEqual(names, field.cells())
            self.assertEqual(told(body), told(field))

    def test_without_cells(self):
        field = Field()
        for _ in range(2):
            self.assert_slim(field)
            body, names = slim_body(field)
            self.assertEqual((body.cells(), names, body.coming()), ([], [], 0))
            field.take(field.put(0, []))

    def test_without_lone_cells(self):
        for count in (1, 7, 60):
            field = tied_pairs(count)
            self.assert_slim(field)
            body, names = slim_body(field)
            self.assertEqual((told(body), names), (told(Body()), []))

    def test_gaps(self):
        field = with_gaps(tied_row(4))
        self.assert_slim(field)
        body, names = slim_body(field)
        self.assertEqual(names, field.lone())
        self.assertEqual([body.border(cell) for cell in body.cells()], [[], [], [0, 1]])

    def test_gaps_are_not_in_the_new_numbers(self):
        field = points(6, Field)
        for cell in (0, 2, 5):
            field.take(cell)
        body, names = slim_body(field)
        self.assertEqual((names, body.cells(), body.coming()), ([1, 3, 4], [0, 1, 2], 3))

    def test_a_border_by_even_counts_is_nothing(self):
        field = closed_row(5)
        for point in range(4):
            field.tie(point, 5 + point)
        self.assert_slim(field)
        body, names = slim_body(field)
        self.assertEqual((names, body.border(1)), ([4, 9], []))

    def test_many_fields(self):
        for field in many_fields():
            self.assert_slim(field)

    def test_the_greatest(self):
        for field in (points(120, Field), full_field(6), grid(5, 6), settled(grid(5, 6)), fan(59), tied_row(60)):
            self.assert_slim(field)

    def test_slim_again(self):
        for field in many_fields():
            again = Field()
            body = slim_body(field)[0]
            for cell in body.cells():
                again.put(body.rank(cell), body.border(cell))
            self.assertEqual(told(slim_body(again)[0]), told(body))

    def test_counts_by_turns_are_the_same(self):
        for field in many_fields():
            turns = [sum((-1) ** rank * count for rank, count in enumerate(kind.counts()))
                     for kind in (field, slim_body(field)[0])]
            self.assertEqual(turns[0], turns[1])


class OwnTest(SlimTest):
    def test_the_slim_body_goes_its_own_way(self):
        for field in (triangle(Field), tied_triangle(), Field()):
            before = told_field(field)
            body, names = slim_body(field)
            first = told(body)
            body.put(0, [])
            body.put(1, evens(0, body.coming() - 1))
            body.take(body.coming() - 1)
            self.assertEqual(told_field(field), before)
            self.assertEqual(told(slim_body(field)[0]), first)
            self.assertEqual(slim_body(field)[1], names)

    def test_the_names_are_the_askers_own(self):
        for field in (triangle(Field), tied_triangle(), Field()):
            before = told_field(field)
            body, names = slim_body(field)
            first, kept = told(body), list(names)
            names.insert(0, GREAT)
            names.append(0)
            self.assertEqual(told_field(field), before)
            self.assertEqual(told(body), first)
            self.assertEqual(slim_body(field)[1], kept)

    def test_the_field_goes_its_own_way(self):
        field = tied_triangle()
        body, names = slim_body(field)
        first, kept = told(body), list(names)
        field.untie(0)
        field.take(6)
        field.put(0, [])
        self.assertEqual((told(body), names), (first, kept))

    def test_a_point_put_in_joins_with_its_own_number(self):
        field = tied_triangle()
        body = slim_body(field)[0]
        self.assertEqual(body.put(0, []), 3)
        self.assertEqual(body.put(1, [0, 3]), 4)
        self.assertEqual(field.coming(), 7)


class AgainTest(SlimTest):
    def test_behind_arrows(self):
        field = triangle(Field)
        for low, high, names in ((0, 3, [1, 2, 4, 5, 6]), (1, 5, [2, 4, 6]), (4, 6, [2])):
            field.tie(low, high)
            self.assert_slim(field)
            self.assertEqual(slim_body(field)[1], names)
        for low, names in ((1, [1, 2, 5]), (0, [0, 1, 2, 3, 5]), (4, [0, 1, 2, 3, 4, 5, 6])):
            field.untie(low)
            self.assert_slim(field)
            self.assertEqual(slim_body(field)[1], names)

    def test_behind_other_arrows_on_the_same_cells(self):
        field = triangle(Field)
        field.tie(0, 3)
        field.untie(0)
        field.tie(1, 3)
        self.assert_slim(field)
        self.assertEqual(slim_body(field)[1], [0, 2, 4, 5, 6])

    def test_behind_putting_in_and_taking_away(self):
        field = tied_triangle()
        field.take(6)
        self.assert_slim(field)
        self.assertEqual(slim_body(field)[1], [2, 4])
        field.put(2, [3, 4, 5])
        self.assert_slim(field)
        self.assertEqual(slim_body(field)[1], [2, 4, 7])

    def test_twins(self):
        field = tied_triangle()
        twin = field.twin()
        twin.untie(1)
        self.assert_slim(twin)
        self.assert_slim(field)
        self.assertEqual((slim_body(field)[1], slim_body(twin)[1]), ([2, 4, 6], [1, 2, 4, 5, 6]))


if __name__ == "__main__":
    unittest.main()
