"""Point 10: orders of the arrows."""

import unittest

from bodies import triangle
from fields import closed_row, fan, full_field, many_fields, row_of_points, settled, soon, steps_by_words, told_field
from slimbody.field import Field


class OrderTest(unittest.TestCase):
    def assert_order(self, field):
        """All tails, each once, with steps to later ones alone."""
        before = told_field(field)
        with soon():
            order = field.order()
        self.assertIs(order.__class__, list)
        self.assertEqual(sorted(order), field.tails())
        arrows = dict(field.arrows())
        borders = {cell: field.border(cell) for cell in field.cells()}
        for place, tail in enumerate(order):
            for later in steps_by_words(arrows, borders, tail):
                self.assertGreater(order.index(later), place)
        self.assertEqual(told_field(field), before)
        return order

    def test_without_arrows(self):
        self.assertEqual(Field().order(), [])
        self.assertEqual(triangle(Field).order(), [])

    def test_one_row(self):
        for points in (range(8), range(7, -1, -1), (3, 0, 7, 5, 1, 6, 2, 4)):
            field = row_of_points(9)
            for point in points:
                field.tie(point, 9 + point)
            self.assertEqual(self.assert_order(field), list(range(8)))

    def test_one_row_down(self):
        field = row_of_points(9)
        for point in range(1, 9):
            field.tie(point, 8 + point)
        self.assertEqual(self.assert_order(field), list(range(8, 0, -1)))

    def test_behind_each_tying_and_untying(self):
        field = settled(full_field(5))
        self.assert_order(field)
        for low in field.tails():
            field.untie(low)
            self.assertNotIn(low, self.assert_order(field))
        self.assertEqual(field.order(), [])
        for low, high in settled(full_field(5)).arrows()[::-1]:
            field.tie(low, high)
            self.assertIn(low, self.assert_order(field))

    def test_an_arrow_turned(self):
        field = row_of_points(3)
        field.tie(0, 3)
        field.tie(1, 4)
        self.assertEqual(self.assert_order(field), [0, 1])
        field.untie(0)
        field.untie(1)
        field.tie(1, 3)
        field.tie(2, 4)
        self.assertEqual(self.assert_order(field), [2, 1])

    def test_branches_that_meet(self):
        for tails in ((0, 1, 2, 3), (3, 2, 1, 0), (2, 0, 3, 1)):
            field = Field()
            for _ in range(4):
                field.put(0, [])
            for border in ([0, 1, 2], [1, 3], [2, 3], [3]):
                field.put(1, border)
            for tail in tails:
                field.tie(tail, tail + 4)
            order = self.assert_order(field)
            self.assertEqual((order[0], order[-1]), (0, 3))

    def test_many(self):
        for field in many_fields():
            self.assert_order(field)

    def test_soon(self):
        self.assertEqual(self.assert_order(fan(59)), list(range(59)))
        field = closed_row(60)
        for point in range(59):
            field.tie(point, 60 + point)
        self.assertEqual(self.assert_order(field), list(range(59)))

    def test_the_list_is_the_askers_own(self):
        field = fan(4)
        field.order().reverse()
        field.order().clear()
        self.assertEqual(field.order(), [0, 1, 2, 3])


if __name__ == "__main__":
    unittest.main()
