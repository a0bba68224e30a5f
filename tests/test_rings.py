"""Point 9: rings of arrows."""

import itertools
import unittest

from bodies import triangle
from fields import closed_row, fan, many_fields, row_of_points, soon, steps_by_words, told_field
from slimbody.errors import RingOfArrows
from slimbody.field import Field


def reached(arrows, borders):
    """For each tail the tails to which some row of steps leads from it."""
    found = {tail: set(steps_by_words(arrows, borders, tail)) for tail in arrows}
    for by, first in itertools.product(arrows, arrows):
        if by in found[first]:
            found[first] |= found[by]
    return found


class RingsTest(unittest.TestCase):
    def assert_ring(self, field, low, high):
        """The tying is refused with a true ring that begins with the low cell, which is told."""
        before = told_field(field)
        with self.assertRaises(RingOfArrows) as caught, soon():
            field.tie(low, high)
        self.assertEqual(told_field(field), before)
        ring = caught.exception.ring
        self.assertIs(ring.__class__, list)
        self.assertGreaterEqual(len(ring), 2)
        self.assertEqual(len(set(ring)), len(ring))
        self.assertEqual(ring[0], low)
        heads = {**dict(field.arrows()), low: high}
        for tail, later in zip(ring, ring[1:] + ring[:1]):
            self.assertIn(tail, heads)
            self.assertIn(later, field.border(heads[tail]))
        return ring


class SmallRingsTest(RingsTest):
    def test_of_two(self):
        field = Field()
        for border in ([], []):
            field.put(0, border)
        for border in ([0, 1], [0, 1]):
            field.put(1, border)
        field.tie(0, 2)
        self.assertEqual(self.assert_ring(field, 1, 3), [1, 0])
        field.untie(0)
        field.tie(1, 3)
        self.assertEqual(self.assert_ring(field, 0, 2), [0, 1])

    def test_of_three(self):
        for tied, low, high, ring in (([(0, 3), (1, 5)], 2, 4, [2, 0, 1]), ([(2, 4), (0, 3)], 1, 5, [1, 2, 0]),
                                      ([(0, 4), (2, 5)], 1, 3, [1, 0, 2])):
            field = triangle(Field)
            for pair in tied:
                field.tie(*pair)
            self.assertEqual(self.assert_ring(field, low, high), ring)

    def test_the_new_tail_is_not_a_ring_with_itself(self):
        field = Field()
        field.put(0, [])
        field.put(1, [0])
        field.tie(0, 1)
        self.assertEqual(field.arrows(), [(0, 1)])

    def test_a_ring_beside_other_arrows(self):
        field = triangle(Field)
        for _ in range(2):
            field.put(0, [])
        field.put(1, [2, 7])
        field.put(1, [0, 8])
        field.put(1, [0, 2, 8])
        field.tie(7, 9)
        field.tie(8, 10)
        field.tie(0, 3)
        field.tie(1, 5)
        # From 7 and 8 one steps into the ring, but not back.
        self.assertEqual(self.assert_ring(field, 2, 4), [2, 0, 1])
        self.assertEqual(self.assert_ring(field, 2, 11), [2, 0, 1])

    def test_several_rings(self):
        field = Field()
        for _ in range(5):
            field.put(0, [])
        for border in ([0, 4], [1, 4], [2, 4], [3, 4], [0, 1, 2, 3, 4]):
            field.put(1, border)
        for tail in range(4):
            field.tie(tail, 5 + tail)
        self.assertIn(self.assert_ring(field, 4, 9), [[4, 0], [4, 1], [4, 2], [4, 3]])

    def test_of_a_higher_rank(self):
        field = triangle(Field)
        field.put(2, [3, 4, 5])
        field.tie(3, 6)
        self.assertEqual(self.assert_ring(field, 4, 7), [4, 3])
        self.assertEqual(self.assert_ring(field, 5, 7), [5, 3])

    def test_the_ring_is_the_askers_own(self):
        field = closed_row(3)
        field.tie(0, 3)
        field.tie(1, 4)
        ring = self.assert_ring(field, 2, 5)
        ring.clear()
        self.assertEqual(self.assert_ring(field, 2, 5), [2, 0, 1])


class NoRingTest(unittest.TestCase):
    def test_two_rows_of_steps_that_meet(self):
        field = Field()
        for _ in range(4):
            field.put(0, [])
        for border in ([0, 1, 2], [1, 3], [2, 3], [3]):
            field.put(1, border)
        for tail in (3, 2, 1, 0):
            self.assertIsNone(field.tie(tail, tail + 4))
        self.assertEqual(field.tails(), [0, 1, 2, 3])

    def test_steps_into_the_new_tail_alone(self):
        field = row_of_points(4)
        field.tie(0, 4)
        field.tie(1, 5)
        self.assertIsNone(field.tie(2, 6))

    def test_faces_that_are_no_tails_are_no_steps(self):
        field = triangle(Field)
        field.tie(0, 3)
        self.assertIsNone(field.tie(2, 4))
        self.assertEqual(field.arrows(), [(0, 3), (2, 4)])

    def test_heads_in_a_border_are_no_steps(self):
        field = triangle(Field)
        field.put(2, [3, 4, 5])
        field.tie(0, 3)
        field.tie(4, 6)
        field.tie(1, 5)
        self.assertEqual(field.arrows(), [(0, 3), (1, 5), (4, 6)])


class ManyFieldsTest(RingsTest):
    def test_each_pair(self):
        rings = 0
        for field in many_fields():
            lone = field.lone()
            borders = {cell: field.border(cell) for cell in field.cells()}
            for high in lone:
                for low in [face for face in borders[high] if face in lone]:
                    arrows = {**dict(field.arrows()), low: high}
                    if low in reached(arrows, borders)[low]:
                        self.assert_ring(field, low, high)
                        rings += 1
                    else:
                        self.assertIsNone(field.twin().tie(low, high))
        self.assertGreater(rings, 20)

    def test_never_a_ring_in_a_field(self):
        for field in many_fields():
            borders = {cell: field.border(cell) for cell in field.cells()}
            for tail, others in reached(dict(field.arrows()), borders).items():
                self.assertNotIn(tail, others)


class SoonTest(RingsTest):
    def test_a_long_ring(self):
        field = closed_row(60)
        with soon():
            for point in range(1, 60):
                field.tie(point, 60 + point)
        self.assertEqual(self.assert_ring(field, 0, 60), list(range(60)))

    def test_a_long_ring_the_other_way(self):
        field = closed_row(60)
        with soon():
            for point in range(59, 0, -1):
                field.tie(point, 59 + point)
        self.assertEqual(self.assert_ring(field, 0, 119), [0] + list(range(59, 0, -1)))

    def test_long_rows_without_a_ring(self):
        for points in (range(59), range(58, -1, -1)):
            field = row_of_points(60)
            with soon():
                for point in points:
                    self.assertIsNone(field.tie(point, 60 + point))
            self.assertEqual(len(field.arrows()), 59)

    def test_many_rows_of_steps_without_a_ring(self):
        with soon():
            field = fan(58)
            last = field.put(1, list(range(59)))
            self.assertIsNone(field.tie(58, field.put(1, [58])))
        self.assertEqual(len(field.arrows()), 59)
        self.assertEqual(field.lone(), [117, last])

    def test_many_rows_of_steps_from_the_new_tail(self):
        field = Field()
        for _ in range(59):
            field.put(0, [])
        for tail in range(58):
            field.put(1, list(range(tail, 58)))
        with soon():
            for tail in range(57, -1, -1):
                field.tie(tail, 59 + tail)
            high = field.put(1, list(range(59)))
            self.assertIsNone(field.tie(58, high))
        self.assertEqual(len(field.arrows()), 59)

    def test_a_ring_behind_many_rows_of_steps(self):
        field = Field()
        for _ in range(58):
            field.put(0, [])
        for tail in range(56):
            field.put(1, list(range(tail, 57)))
        field.put(1, [56, 57])
        with soon():
            for tail in range(57):
                field.tie(tail, 58 + tail)
            high = field.put(1, [0, 57])
        ring = self.assert_ring(field, 57, high)
        self.assertEqual((ring[:2], ring[-1]), ([57, 0], 56))


if __name__ == "__main__":
    unittest.main()
