"""Points 9, 10, 13, 14, 15 and 19 over the whole program: long rows of arrows, told soon."""

import unittest

from bodies import told
from fields import fan, soon, told_field
from slimbody.carry import down, filled, slim_border, up
from slimbody.deeds import cancel, settle
from slimbody.errors import ManyRoads, RingOfArrows
from slimbody.field import Field, field_on
from slimbody.notes import read_field, written
from slimbody.roads import only_road, roads
from slimbody.rounds import bar, filling, slim_filling
from slimbody.shapes import round_body
from slimbody.slim import slim_body
from slimbody.tower import Tower


def ladder(count):
    """Tails 0 to count - 1, each tied to a stretch over it and all points ahead of it; the lone point `count`.

    So from each tail one steps to all lower ones; the stretch of tail i has the border 0 to i and the lone point.
    """
    field = Field()
    for _ in range(count + 1):
        field.put(0, [])
    for tail in range(count):
        field.put(1, list(range(tail + 1)) + [count])
    for tail in range(count - 1, -1, -1):
        field.tie(tail, count + 1 + tail)
    return field


def chain(count):
    """The round of so many points, each but the first tied to the stretch behind it, without the last stretch."""
    field = field_on(round_body(count))
    field.take(2 * count - 1)
    for point in range(1, count - 1):
        field.tie(point, count + point)
    return field


class RingsTest(unittest.TestCase):
    def test_rings_of_two_to_sixty_points(self):
        for count in range(2, 61):
            for way in (1, -1):
                field = field_on(round_body(count))
                points = list(range(count))[::way]
                highs = [count + point if way == 1 else count + (point - 1) % count for point in range(count)]
                with soon():
                    for point in points[:-1]:
                        field.tie(point, highs[point])
                    before = told_field(field)
                    with self.assertRaises(RingOfArrows) as caught:
                        field.tie(points[-1], highs[points[-1]])
                self.assertEqual(caught.exception.ring, points[-1:] + points[:-1])
                self.assertEqual(told_field(field), before)
                self.assertEqual(field.order(), points[:-1])

    def test_settled_rings(self):
        for count in range(1, 61):
            field = field_on(round_body(count))
            with soon():
                pairs = settle(field)
            self.assertEqual(pairs, [(point, count + point) for point in range(count - 1)])
            body, names = slim_body(field)
            self.assertEqual((names, body.counts(), body.border(1)), ([count - 1, 2 * count - 1], [1, 1], []))


class LaddersTest(unittest.TestCase):
    def test_order(self):
        for count in range(1, 41):
            with soon():
                self.assertEqual(ladder(count).order(), list(range(count - 1, -1, -1)))
                self.assertEqual(fan(count).order(), list(range(count)))

    def test_roads(self):
        for count in range(1, 41):
            field = ladder(count)
            high = field.put(1, list(range(count + 1)))
            with soon():
                self.assertEqual(roads(field, high, count), 2 ** count)
                with self.assertRaises(ManyRoads) as caught:
                    cancel(field, high, count)
            self.assertEqual(caught.exception.many, 2 ** count)
            self.assertEqual(len(field.tails()), count)

    def test_only_road_among_very_many_others(self):
        field = ladder(40)
        field.put(0, [])
        high = field.put(1, list(range(40)) + [field.coming() - 1])
        with soon():
            self.assertEqual(only_road(field, high, high - 1), [high, high - 1])
            self.assertEqual(cancel(field, high, high - 1), [high, high - 1])
        self.assertEqual(field.head_of(high - 1), high)

    def test_fillers(self):
        for count in range(1, 41):
            field = ladder(count)
            heads = list(range(count + 1, 2 * count + 1))
            with soon():
                self.assertEqual(filled(field, [0]), heads[:1])
                for tail in range(1, count):
                    self.assertEqual(filled(field, [tail]), heads[tail - 1:tail + 1])
                self.assertEqual(filled(field, list(range(count))), heads[-1:])

    def test_carried(self):
        for count in (1, 2, 3, 39, 40):
            field = ladder(count)
            high = field.put(1, list(range(count + 1)))
            with soon():
                # The first tail's head has the lone point beside it; the others' have all that is nothing by evens.
                self.assertEqual([down(field, [tail]) for tail in range(count)], [[count]] + [[]] * (count - 1))
                self.assertEqual(up(field, [high]), [2 * count, high])
                self.assertEqual(slim_border(field, [high]), [])

    def test_all_else(self):
        field = ladder(40)
        with soon():
            self.assertEqual(told_field(read_field(written(field))), told_field(field))
            self.assertEqual(slim_body(field)[1], [40])
            self.assertEqual(slim_filling(field, [0, 40]), [41])
            self.assertIsNone(bar(field, [0, 40]))
            self.assertEqual(filling(field, [1]), [41, 42])
            tower = Tower(field)
            for low, high in field.arrows():
                tower.tie(low, high)
            self.assertEqual(tower.build(), [40])
            self.assertEqual((tower.down([0, 1]), tower.filled([1]), tower.up([0])), ([0], [41, 42], [40]))


class ChainsTest(unittest.TestCase):
    def test_the_one_road_turned(self):
        for count in range(2, 61):
            field = chain(count)
            cells = told(field)
            road = [count] + [cell for point in range(1, count - 1) for cell in (point, count + point)] + [count - 1]
            with soon():
                self.assertEqual(roads(field, count, count - 1), 1)
                self.assertEqual(cancel(field, count, count - 1), road)
            self.assertEqual(told(field), cells)
            self.assertEqual(field.arrows(), [(point, count + point - 1) for point in range(1, count)])
            self.assertEqual(field.order(), list(range(count - 1, 0, -1)))
            self.assertEqual((field.lone(), slim_border(field, [0])), ([0], []))

    def test_turned_there_and_back(self):
        field = chain(60)
        first = field.arrows()
        with soon():
            for _ in range(5):
                cancel(field, 60, 59)
                self.assertEqual(field.untie(59), 118)
                cancel(field, 118, 0)
                self.assertEqual(field.untie(0), 60)
                self.assertEqual(field.arrows(), first)

    def test_carried_along(self):
        field = chain(60)
        with soon():
            self.assertEqual(down(field, [1]), [59])
            self.assertEqual(filled(field, [1]), list(range(61, 119)))
            self.assertEqual(up(field, [60]), list(range(60, 119)))
            self.assertEqual(slim_filling(field, [0, 59]), list(range(60, 119)))


if __name__ == "__main__":
    unittest.main()
