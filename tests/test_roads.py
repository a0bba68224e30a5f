"""Points 13 and 19's refusals: roads."""

import unittest

from bodies import GREAT, triangle
from fields import fan, full_field, many_fields, roads_by_words, settled, soon, tied_row, told_field, with_gaps
from slimbody.errors import ManyRoads, NoCell, NotLone
from slimbody.field import Field
from slimbody.roads import only_road, roads


def told_road(field, high, low):
    """The only road, told soon."""
    with soon():
        return only_road(field, high, low)


class RoadsTest(unittest.TestCase):
    def assert_refused(self, refusal, field, high, low):
        before = told_field(field)
        for ask in (roads, only_road):
            with self.assertRaises(refusal) as caught:
                ask(field, high, low)
            self.assertIs(caught.exception.__class__, refusal)
        self.assertEqual(told_field(field), before)

    def assert_roads(self, field, high, low, many):
        """The count, and where there is not just one the refusal with it."""
        before = told_field(field)
        with soon():
            self.assertEqual(roads(field, high, low), many)
        if many == 1:
            self.assertEqual([told_road(field, high, low)], roads_by_words(field, high, low))
        else:
            with self.assertRaises(ManyRoads) as caught, soon():
                only_road(field, high, low)
            self.assertEqual(caught.exception.many, many)
        self.assertEqual(told_field(field), before)


class CountTest(RoadsTest):
    def test_without_a_tail(self):
        field = triangle(Field)
        for high in field.cells():
            for low in field.cells():
                self.assert_roads(field, high, low, 1 if low in field.border(high) else 0)
        self.assertEqual(told_road(field, 6, 4), [6, 4])

    def test_one_row_of_tails(self):
        field = tied_row(5)
        self.assert_roads(field, 5, 4, 1)
        self.assertEqual(told_road(field, 5, 4), [5, 1, 6, 2, 7, 3, 8, 4])
        self.assertEqual(told_road(field, 5, 0), [5, 0])

    def test_one_tail(self):
        field = tied_row(3)
        self.assertEqual(told_road(field, 3, 2), [3, 1, 4, 2])
        self.assertEqual(told_road(field, 3, 0), [3, 0])

    def test_both_ways_around(self):
        field = triangle(Field)
        field.tie(0, 3)
        self.assert_roads(field, 4, 1, 1)
        self.assertEqual(told_road(field, 4, 1), [4, 0, 3, 1])
        self.assertEqual(told_road(field, 4, 2), [4, 2])
        field.tie(1, 5)
        self.assert_roads(field, 4, 2, 2)

    def test_no_way_back_to_the_tail_just_left(self):
        field = Field()
        for border in ([], []):
            field.put(0, border)
        field.put(1, [0])
        field.put(1, [0, 1])
        field.tie(0, 3)
        self.assert_roads(field, 2, 1, 1)
        self.assertEqual(told_road(field, 2, 1), [2, 0, 3, 1])

    def test_none_from_the_low_to_the_high(self):
        field = tied_row(5)
        for low in (0, 4):
            self.assert_roads(field, low, 5, 0)

    def test_none_where_the_tail_ends_no_further(self):
        field = Field()
        for border in ([], []):
            field.put(0, border)
        field.put(1, [0, 1])
        field.put(1, [0])
        field.tie(0, 3)
        self.assert_roads(field, 2, 1, 1)
        self.assertEqual(told_road(field, 2, 1), [2, 1])

    def test_a_dead_end_beside_the_only_road(self):
        field = Field()
        for _ in range(5):
            field.put(0, [])
        for border in ([0, 1, 2], [0, 3], [1, 4], [2], [1, 2, 3]):
            field.put(1, border)
        field.tie(0, 6)
        field.tie(1, 7)
        field.tie(2, 8)
        self.assert_roads(field, 5, 3, 1)
        self.assertEqual(told_road(field, 5, 3), [5, 0, 6, 3])
        self.assertEqual(told_road(field, 5, 4), [5, 1, 7, 4])
        self.assertEqual(told_road(field, 9, 3), [9, 3])

    def test_a_head_that_is_reached_from_elsewhere_alone(self):
        field = Field()
        for _ in range(4):
            field.put(0, [])
        for border in ([0, 1], [0, 2], [1, 2], [3], [2, 3]):
            field.put(1, border)
        field.tie(0, 5)
        field.tie(3, 8)
        self.assertEqual(told_road(field, 4, 2), [4, 0, 5, 2])
        self.assertEqual(told_road(field, 7, 2), [7, 3, 8, 2])

    def test_branches(self):
        for count in range(8):
            field = fan(count)
            self.assert_roads(field, 2 * count + 1, count, 2 ** count)
            self.assertEqual(len(roads_by_words(field, 2 * count + 1, count)), 2 ** count)

    def test_many_figures_soon(self):
        self.assert_roads(fan(59), 119, 59, 2 ** 59)
        self.assert_roads(with_gaps(fan(57)), with_gaps(fan(57)).cells()[-1], with_gaps(fan(57)).cells()[57], 2 ** 57)

    def test_ranks_that_are_not_one_apart(self):
        for field in many_fields():
            lone = field.lone()
            for high in lone:
                for low in lone:
                    if field.rank(high) != field.rank(low) + 1:
                        self.assertEqual(roads(field, high, low), 0)

    def test_from_a_cell_to_itself(self):
        for field in (triangle(Field), tied_row(6), fan(5), settled(full_field(4))):
            for cell in field.lone():
                self.assert_roads(field, cell, cell, 0)

    def test_by_words(self):
        seen = set()
        for field in many_fields():
            lone = field.lone()
            for high in lone:
                for low in field.of_rank(field.rank(high) - 1):
                    if low in lone:
                        many = len(roads_by_words(field, high, low))
                        self.assert_roads(field, high, low, many)
                        seen.add(many)
        self.assertLess({0, 1, 2, 3, 4}, seen)

    def test_behind_an_untying(self):
        field = tied_row(4)
        self.assert_roads(field, 4, 3, 1)
        field.untie(2)
        self.assert_roads(field, 4, 3, 0)
        self.assert_roads(field, 4, 2, 1)
        self.assertEqual(told_road(field, 6, 2), [6, 2])


class RefusalsTest(RoadsTest):
    def test_no_cell(self):
        field = triangle(Field)
        field.take(field.put(0, []))
        for cell in (-1, 7, 8, GREAT, -GREAT):
            for high, low in ((cell, 0), (3, cell), (cell, cell)):
                self.assert_refused(NoCell, field, high, low)
        self.assert_refused(NoCell, Field(), 0, 0)

    def test_not_lone(self):
        field = tied_row(4)
        for high, low in ((4, 1), (4, 2), (5, 0), (5, 3), (6, 3), (1, 1), (5, 1), (1, 0), (4, 5), (5, 5)):
            self.assert_refused(NotLone, field, high, low)

    def test_no_cell_ahead_of_not_lone(self):
        field = tied_row(4)
        for cell in (-1, 7, GREAT):
            for high, low in ((5, cell), (1, cell), (cell, 1), (cell, 5)):
                self.assert_refused(NoCell, field, high, low)

    def test_not_lone_ahead_of_many_roads(self):
        field = fan(3)
        self.assert_refused(NotLone, field, 7, 0)
        self.assert_refused(NotLone, field, 4, 3)
        self.assert_refused(NotLone, field, 0, 7)

    def test_many_roads(self):
        for field, high, low, many in ((fan(2), 5, 2, 4), (fan(1), 3, 1, 2), (triangle(Field), 3, 2, 0),
                                       (triangle(Field), 0, 3, 0), (triangle(Field), 0, 0, 0)):
            self.assert_roads(field, high, low, many)

    def test_the_road_is_the_askers_own(self):
        field = tied_row(4)
        before = told_field(field)
        road = told_road(field, 4, 3)
        self.assertIs(road.__class__, list)
        road.clear()
        self.assertEqual(told_field(field), before)
        self.assertEqual(told_road(field, 4, 3), [4, 1, 5, 2, 6, 3])


if __name__ == "__main__":
    unittest.main()
