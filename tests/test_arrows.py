"""Points 2, 8, 9 and 11: tying, untying, and taking away from a field."""

import unittest

from bodies import GREAT, triangle
from cases import FieldTest
from fields import closed_row, full_field, many_fields, told_field
from slimbody.errors import Covered, NoCell, NotFace, NotTied, RingOfArrows, Tied
from slimbody.field import Field


def with_a_gap():
    """The triangle, and a cell 7 that has gone."""
    field = triangle(Field)
    field.take(field.put(0, []))
    return field


ABSENT = [-1, 7, 8, 9, GREAT, -GREAT]


class TieTest(FieldTest):
    def test_none_told(self):
        self.assertIsNone(triangle(Field).tie(0, 3))

    def test_behind_each(self):
        field = triangle(Field)
        self.assert_arrows(field, [])
        field.tie(2, 5)
        self.assert_arrows(field, [(2, 5)])
        field.tie(0, 3)
        self.assert_arrows(field, [(0, 3), (2, 5)])
        field.tie(4, 6)
        self.assert_arrows(field, [(0, 3), (2, 5), (4, 6)])
        self.assertEqual(field.lone(), [1])

    def test_the_tails_rise_and_the_pairs_are_tuples(self):
        field = closed_row(6)
        for low, high in ((4, 9), (0, 11), (2, 7), (5, 10)):
            field.tie(low, high)
        self.assertEqual(field.arrows(), [(0, 11), (2, 7), (4, 9), (5, 10)])
        for pair in field.arrows():
            self.assertIs(pair.__class__, tuple)
        self.assertEqual(field.heads(), [7, 9, 10, 11])

    def test_either_end_of_a_stretch(self):
        for low in (0, 1):
            field = triangle(Field)
            field.tie(low, 3)
            self.assert_arrows(field, [(low, 3)])

    def test_a_stretch_with_one_end(self):
        field = Field()
        field.put(0, [])
        field.put(1, [0])
        field.tie(0, 1)
        self.assert_arrows(field, [(0, 1)])
        self.assertEqual(field.lone(), [])

    def test_at_the_highest_rank(self):
        field = Field()
        field.put(11, [])
        field.put(12, [0])
        field.tie(0, 1)
        self.assert_arrows(field, [(0, 1)])

    def test_without_cells(self):
        self.assert_arrows(Field(), [])

    def test_two_fields_are_apart(self):
        one, other = triangle(Field), triangle(Field)
        one.tie(0, 3)
        self.assert_arrows(other, [])

    def test_sixty_arrows(self):
        field = Field()
        for _ in range(60):
            field.put(0, [])
        for point in range(60):
            field.put(1, [point])
        for point in range(60):
            field.tie(point, point + 60)
        self.assert_arrows(field, [(point, point + 60) for point in range(60)])
        self.assertEqual(field.lone(), [])


class TieRefusalsTest(FieldTest):
    def test_no_cell(self):
        field = with_a_gap()
        field.tie(0, 3)
        for cell in ABSENT:
            for low, high in ((cell, 3), (0, cell), (cell, 6), (1, cell), (cell, cell)):
                self.assert_refused(NoCell, field, field.tie, low, high)
        empty = Field()
        self.assert_refused(NoCell, empty, empty.tie, 0, 0)

    def test_not_face(self):
        field = triangle(Field)
        for low, high in ((2, 3), (3, 0), (0, 0), (6, 6), (0, 6), (6, 0), (0, 1), (3, 4), (6, 3), (5, 0)):
            self.assert_refused(NotFace, field, field.tie, low, high)

    def test_tied(self):
        field = full_field(4)
        field.tie(0, 4)
        for low, high in ((0, 5), (0, 6), (1, 4), (4, 10), (4, 11), (0, 4)):
            self.assert_refused(Tied, field, field.tie, low, high)
        field.tie(5, 10)
        for low, high in ((5, 12), (7, 10), (0, 5), (2, 5), (10, 14), (4, 10)):
            self.assert_refused(Tied, field, field.tie, low, high)

    def test_ring(self):
        field = triangle(Field)
        field.tie(0, 3)
        field.tie(1, 5)
        self.assert_refused(RingOfArrows, field, field.tie, 2, 4)

    def test_tied_no_more(self):
        field = triangle(Field)
        field.tie(0, 3)
        self.assert_refused(Tied, field, field.tie, 3, 6)
        field.untie(0)
        field.tie(3, 6)
        self.assert_arrows(field, [(3, 6)])


class OrderOfTieRefusalsTest(FieldTest):
    def test_not_face_ahead_of_tied(self):
        field = triangle(Field)
        field.tie(0, 3)
        for low, high in ((0, 5), (2, 3), (0, 6), (3, 0), (0, 0), (3, 3), (0, 1)):
            self.assert_refused(NotFace, field, field.tie, low, high)

    def test_tied_ahead_of_ring(self):
        field = triangle(Field)
        field.put(1, [0, 1])
        field.tie(0, 3)
        field.tie(2, 5)
        self.assert_refused(RingOfArrows, field, field.tie, 1, 7)
        # With these, tails 0 and 1 would step to each other just as well.
        self.assert_refused(Tied, field, field.tie, 1, 3)
        self.assert_refused(Tied, field, field.tie, 0, 7)
        self.assert_refused(Tied, field, field.tie, 1, 5)
        self.assert_refused(Tied, field, field.tie, 2, 4)

    def test_a_face_that_is_tied_and_would_make_a_ring(self):
        field = closed_row(4)
        for point in range(3):
            field.tie(point, 4 + point)
        self.assert_refused(RingOfArrows, field, field.tie, 3, 7)
        field.put(2, [4, 5, 6, 7])
        field.tie(7, 8)
        self.assert_refused(Tied, field, field.tie, 3, 7)


class UntieTest(FieldTest):
    def test_the_head_is_told(self):
        field = full_field(4)
        field.tie(0, 4)
        field.tie(5, 10)
        self.assertEqual(field.untie(5), 10)
        self.assert_arrows(field, [(0, 4)])
        self.assertEqual(field.untie(0), 4)
        self.assert_arrows(field, [])

    def test_no_cell(self):
        field = with_a_gap()
        field.tie(0, 3)
        for cell in ABSENT:
            self.assert_refused(NoCell, field, field.untie, cell)
        self.assert_refused(NoCell, Field(), Field().untie, 0)

    def test_not_tied(self):
        field = triangle(Field)
        field.tie(0, 3)
        for cell in (1, 2, 3, 4, 5, 6):
            self.assert_refused(NotTied, field, field.untie, cell)

    def test_twice(self):
        field = triangle(Field)
        field.tie(0, 3)
        field.untie(0)
        self.assert_refused(NotTied, field, field.untie, 0)

    def test_tied_again(self):
        field = triangle(Field)
        field.tie(0, 3)
        self.assertEqual(field.untie(0), 3)
        field.tie(0, 4)
        field.tie(1, 3)
        self.assert_arrows(field, [(0, 4), (1, 3)])
        self.assertEqual(field.untie(0), 4)

    def test_a_ring_no_more(self):
        field = triangle(Field)
        field.tie(0, 3)
        field.tie(1, 5)
        self.assert_refused(RingOfArrows, field, field.tie, 2, 4)
        field.untie(0)
        field.tie(2, 4)
        self.assert_arrows(field, [(1, 5), (2, 4)])


class AskTest(FieldTest):
    def test_no_cell(self):
        field = with_a_gap()
        field.tie(0, 3)
        for cell in ABSENT:
            self.assert_refused(NoCell, field, field.head_of, cell)
            self.assert_refused(NoCell, field, field.tail_of, cell)

    def test_none(self):
        field = triangle(Field)
        field.tie(0, 3)
        self.assertEqual((field.head_of(0), field.tail_of(3)), (3, 0))
        self.assertIsNone(field.head_of(3))
        self.assertIsNone(field.tail_of(0))
        self.assertIsNone(field.head_of(6))
        self.assertIsNone(field.tail_of(6))

    def test_the_tail_nought_is_told(self):
        field = triangle(Field)
        field.tie(0, 4)
        self.assertEqual(field.tail_of(4), 0)
        self.assertEqual(field.untie(0), 4)

    def test_each_cell_is_one_of_the_three(self):
        for field in many_fields():
            self.assertEqual(sorted(field.tails() + field.heads() + field.lone()), field.cells())
            self.assertEqual(field.arrows(), [(low, field.head_of(low)) for low in field.tails()])
            for low, high in field.arrows():
                self.assertIn(low, field.border(high))

    def test_told_lists_are_the_askers_own(self):
        field = full_field(4)
        field.tie(0, 4)
        field.tie(5, 10)
        before = told_field(field)
        for ask in (field.tails, field.heads, field.lone, field.arrows, field.order, field.cells):
            row = ask()
            self.assertIs(row.__class__, list)
            row.append(1)
            self.assertEqual(told_field(field), before)
            row.clear()
            self.assertEqual(told_field(field), before)
            self.assertIsNot(ask(), ask())


class TakeTest(FieldTest):
    def test_no_cell(self):
        field = with_a_gap()
        field.tie(0, 3)
        for cell in ABSENT:
            self.assert_refused(NoCell, field, field.take, cell)

    def test_tied(self):
        field = triangle(Field)
        field.tie(4, 6)
        self.assert_refused(Tied, field, field.take, 6)
        self.assert_refused(Tied, field, field.take, 4)

    def test_tied_ahead_of_covered(self):
        field = triangle(Field)
        field.tie(0, 3)
        self.assert_refused(Tied, field, field.take, 0)
        self.assert_refused(Tied, field, field.take, 3)

    def test_covered(self):
        field = triangle(Field)
        field.tie(4, 6)
        for cell in (0, 1, 2, 3, 5):
            self.assert_refused(Covered, field, field.take, cell)

    def test_behind_an_untying(self):
        field = triangle(Field)
        field.tie(4, 6)
        field.untie(4)
        self.assertIsNone(field.take(6))
        self.assertIsNone(field.take(4))
        self.assertEqual((field.cells(), field.lone()), ([0, 1, 2, 3, 5], [0, 1, 2, 3, 5]))
        self.assertEqual(field.put(0, []), 7)

    def test_a_lone_cell(self):
        field = triangle(Field)
        field.tie(0, 3)
        self.assertIsNone(field.take(6))
        self.assertIsNone(field.take(5))
        self.assert_arrows(field, [(0, 3)])
        self.assert_refused(NoCell, field, field.take, 6)

    def test_each_cell_of_many(self):
        for field in many_fields():
            for cell in field.cells():
                if cell not in field.lone():
                    self.assert_refused(Tied, field, field.take, cell)
                elif field.over(cell):
                    self.assert_refused(Covered, field, field.take, cell)
                else:
                    twin = field.twin()
                    self.assertIsNone(twin.take(cell))
                    self.assertEqual(twin.arrows(), field.arrows())
                    self.assertIs(twin.stands(cell), False)


if __name__ == "__main__":
    unittest.main()
