"""Points 2 and 19: cancelling."""

import random
import unittest

from bodies import GREAT, told, triangle
from cases import FieldTest
from fields import (fan, full_field, grid, many_fields, rebuilt, roads_by_words, row_of_points, settled, some_sums,
                    soon, tied_row, tied_triangle, told_field, with_gaps)
from slimbody.carry import down, slim_border, up
from slimbody.deeds import cancel, settle
from slimbody.errors import ManyRoads, NoCell, NotLone
from slimbody.field import Field
from slimbody.roads import only_road, roads
from slimbody.sums import total


def turned(arrows, road):
    """The arrows behind the turning of a road."""
    ahead = dict(arrows)
    for tail in road[1:-1:2]:
        del ahead[tail]
    for place in range(1, len(road), 2):
        ahead[road[place]] = road[place - 1]
    return sorted(ahead.items())


def single_roads(field):
    """The pairs of lone cells with just one road between them."""
    return [(high, low) for high in field.lone() for low in field.lone() if roads(field, high, low) == 1]


class CancelTest(FieldTest):
    def assert_cancelled(self, field, high, low):
        """The road, the arrows, the lone cells and the slim borders behind it go with the words of point 19."""
        cells, lone = told(field), field.lone()
        road, arrows = only_road(field, high, low), turned(field.arrows(), only_road(field, high, low))
        former = {cell: slim_border(field, [cell]) for cell in lone}
        with soon():
            self.assertEqual(cancel(field, high, low), road)
        self.assertEqual(told(field), cells)
        self.assert_arrows(field, arrows)
        self.assertEqual(field.lone(), [cell for cell in lone if cell not in (high, low)])
        for cell in field.lone():
            border = former[cell]
            if low in border:
                border = total([border, former[high]])
            self.assertEqual(slim_border(field, [cell]), [face for face in border if face not in (high, low)])
        return road


class RoadTurnedTest(CancelTest):
    def test_no_tail(self):
        field = triangle(Field)
        self.assertEqual(self.assert_cancelled(field, 4, 2), [4, 2])
        self.assert_arrows(field, [(2, 4)])
        self.assertEqual(self.assert_cancelled(field, 6, 5), [6, 5])
        self.assert_arrows(field, [(2, 4), (5, 6)])
        self.assertEqual(field.lone(), [0, 1, 3])

    def test_one_tail(self):
        field = triangle(Field)
        field.tie(0, 3)
        self.assertEqual(self.assert_cancelled(field, 4, 1), [4, 0, 3, 1])
        self.assert_arrows(field, [(0, 4), (1, 3)])
        self.assertEqual(field.lone(), [2, 5, 6])

    def test_several_tails(self):
        field = tied_row(5)
        self.assertEqual(self.assert_cancelled(field, 5, 4), [5, 1, 6, 2, 7, 3, 8, 4])
        self.assert_arrows(field, [(1, 5), (2, 6), (3, 7), (4, 8)])
        self.assertEqual(field.lone(), [0])

    def test_the_other_end(self):
        field = tied_row(5)
        self.assertEqual(self.assert_cancelled(field, 5, 0), [5, 0])
        self.assert_arrows(field, [(0, 5), (1, 6), (2, 7), (3, 8)])

    def test_other_arrows_stay(self):
        field = row_of_points(7)
        for low, high in ((1, 8), (2, 9), (5, 12)):
            field.tie(low, high)
        self.assertEqual(self.assert_cancelled(field, 7, 3), [7, 1, 8, 2, 9, 3])
        self.assert_arrows(field, [(1, 7), (2, 8), (3, 9), (5, 12)])

    def test_a_road_among_branches(self):
        field = fan(3)
        field.put(1, [2, 3])
        # From 8 there is one road to the point 3 through the tail 2; beside it one straight to 3.
        self.assertEqual(roads(field, 8, 3), 2)
        field.put(1, [2])
        self.assertEqual(self.assert_cancelled(field, 9, 3), [9, 2, 6, 3])
        self.assert_arrows(field, [(0, 4), (1, 5), (2, 9), (3, 6)])

    def test_higher_ranks(self):
        field = settled(full_field(4))
        self.assertEqual(field.lone(), [3])
        field.untie(field.tail_of(14))
        high, low = 14, [cell for cell in field.lone() if field.rank(cell) == 2][0]
        self.assert_cancelled(field, high, low)
        self.assertEqual(field.lone(), [3])

    def test_gaps(self):
        field = with_gaps(tied_row(4))
        cells = field.cells()
        self.assertEqual(self.assert_cancelled(field, cells[4], cells[3]),
                         [cells[place] for place in (4, 1, 5, 2, 6, 3)])

    def test_a_long_road(self):
        field = tied_row(60)
        road = self.assert_cancelled(field, 60, 59)
        self.assertEqual(len(road), 118)
        self.assert_arrows(field, [(point, 59 + point) for point in range(1, 60)])
        self.assertEqual(field.lone(), [0])

    def test_the_road_comes_back_when_it_is_turned_again(self):
        field = tied_row(5)
        cancel(field, 5, 4)
        field.untie(4)
        self.assertEqual(self.assert_cancelled(field, 8, 0), [8, 3, 7, 2, 6, 1, 5, 0])

    def test_many_fields(self):
        lengths = set()
        for field in many_fields():
            for high, low in single_roads(field):
                lengths.add(len(self.assert_cancelled(field.twin(), high, low)))
        self.assertTrue({2, 4, 6, 8} <= lengths)

    def test_one_behind_the_other(self):
        for field in many_fields():
            pairs = single_roads(field)
            while pairs:
                self.assert_cancelled(field, *pairs[-1])
                pairs = single_roads(field)
            for high in field.lone():
                for low in field.lone():
                    self.assertNotEqual(roads(field, high, low), 1)

    def test_sums_of_lone_cells(self):
        for number, field in enumerate(many_fields()):
            for high, low in single_roads(field)[:3]:
                twin = field.twin()
                cancel(twin, high, low)
                for row in some_sums(twin.lone(), random.Random(number), 4):
                    border = slim_border(field, row)
                    if low in border:
                        border = total([border, slim_border(field, [high])])
                    self.assertEqual(slim_border(twin, row), [cell for cell in border if cell in twin.lone()])

    def test_the_carriers_behind_it(self):
        for number, field in enumerate(many_fields()):
            for high, low in single_roads(field)[:2]:
                twin = field.twin()
                cancel(twin, high, low)
                for row in some_sums(twin.cells(), random.Random(number), 3):
                    self.assertEqual(down(twin, twin.border_of(row)), slim_border(twin, down(twin, row)))
                for row in some_sums(twin.lone(), random.Random(number), 3):
                    self.assertEqual(down(twin, up(twin, row)), row)

    def test_as_on_a_field_built_anew(self):
        for field in many_fields():
            settle(field)
            for low in field.tails()[::3]:
                field.untie(low)
            for high, low in single_roads(field)[:3]:
                twin, anew = field.twin(), rebuilt(field)
                self.assertEqual(cancel(twin, high, low), cancel(anew, high, low))
                self.assertEqual(told_field(twin), told_field(anew))

    def test_great_fields_soon(self):
        for field in (settled(grid(5, 6)), settled(full_field(6)), fan(59)):
            for low in field.tails()[::4]:
                field.untie(low)
            pairs = [(high, low) for high in field.lone() for low in field.border(high) if low in field.lone()]
            with soon():
                cancelled = [pair for pair in pairs if self.cancelled(field, *pair)]
            self.assertNotEqual(cancelled, [])
            self.assertEqual(sorted(field.order()), field.tails())

    def cancelled(self, field, high, low):
        """Whether the two were cancelled."""
        try:
            cancel(field, high, low)
        except (ManyRoads, NotLone):
            return False
        return True


class RefusalsTest(FieldTest):
    def test_no_cell(self):
        field = tied_triangle()
        field.take(field.put(0, []))
        for cell in (-1, 7, 8, GREAT, -GREAT):
            for other in (cell, -1, 7, 0, 3, 2, 4, 6):
                self.assert_refused(NoCell, field, cancel, field, cell, other)
                self.assert_refused(NoCell, field, cancel, field, other, cell)
        self.assert_refused(NoCell, Field(), cancel, Field(), 0, 0)

    def test_not_lone(self):
        field = tied_triangle()
        for tied in (0, 1, 3, 5):
            for cell in field.cells():
                self.assert_refused(NotLone, field, cancel, field, tied, cell)
                self.assert_refused(NotLone, field, cancel, field, cell, tied)

    def test_no_road(self):
        field = triangle(Field)
        for high, low in ((4, 1), (0, 3), (6, 0), (6, 6), (3, 3), (0, 1), (0, 0), (3, 6)):
            refusal = self.assert_refused(ManyRoads, field, cancel, field, high, low)
            self.assertEqual(refusal.many, 0)

    def test_two_roads(self):
        field = tied_triangle()
        refusal = self.assert_refused(ManyRoads, field, cancel, field, 4, 2)
        self.assertEqual(refusal.many, 2)

    def test_three_roads(self):
        field = fan(2)
        # The tails 0 and 1, the lone point 2; from 5 to it: straight, by 1, by 0, by 0 and 1.
        refusal = self.assert_refused(ManyRoads, field, cancel, field, 5, 2)
        self.assertEqual(refusal.many, 4)
        field.put(1, [0, 1])
        refusal = self.assert_refused(ManyRoads, field, cancel, field, 6, 2)
        self.assertEqual(refusal.many, 3)

    def test_very_many_roads(self):
        field = fan(59)
        with soon():
            refusal = self.assert_refused(ManyRoads, field, cancel, field, 119, 59)
        self.assertEqual(refusal.many, 2 ** 59)

    def test_cancelled_twice(self):
        field = triangle(Field)
        cancel(field, 4, 2)
        self.assert_refused(NotLone, field, cancel, field, 4, 2)

    def test_by_words_on_many_fields(self):
        for field in many_fields()[::2]:
            for high in field.cells():
                for low in field.cells():
                    if field.head_of(high) is None and field.tail_of(high) is None and low in field.lone():
                        many = len(roads_by_words(field, high, low))
                        if many != 1:
                            refusal = self.assert_refused(ManyRoads, field, cancel, field, high, low)
                            self.assertEqual(refusal.many, many)


class OwnTest(FieldTest):
    def test_the_told_road_is_the_askers_own(self):
        field = tied_row(4)
        road = cancel(field, 4, 3)
        self.assertIs(road.__class__, list)
        before = told_field(field)
        road.reverse()
        road.append(99)
        self.assertEqual(told_field(field), before)

    def test_twins(self):
        field = tied_row(4)
        twin = field.twin()
        before = told_field(field)
        cancel(twin, 4, 3)
        self.assertEqual(told_field(field), before)
        self.assertEqual(cancel(field, 4, 3), [4, 1, 5, 2, 6, 3])
        self.assertEqual(told_field(field), told_field(twin))


if __name__ == "__main__":
    unittest.main()
