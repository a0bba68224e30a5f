"""Point 1 over the whole program: each class of refusal, raised by what is refused so."""

import unittest

from bodies import GREAT, points, triangle
from fields import fan, tied_triangle
from slimbody import errors
from slimbody.body import Body
from slimbody.carry import down, filled, slim_border, up
from slimbody.deeds import cancel, fold, grow
from slimbody.field import Field
from slimbody.notes import read_field, read_sum
from slimbody.roads import only_road, roads
from slimbody.room import Room
from slimbody.rounds import bar, filling, is_round, slim_filling
from slimbody.shapes import apart, full_body, product, round_body
from slimbody.sums import added, evenly, total
from slimbody.tower import Tower

FIELD, TOWER, MANY = tied_triangle(), Tower(triangle()), points(120, Field)
REFUSED = {
    "NotASum": [(added, [1, 1], []), (added, [], [2, 1]), (total, [[0], [1, 0]]), (evenly, [3, 3], []),
                (triangle().put, 1, [1, 0]), (triangle().border_of, [0, 0]), (filled, FIELD, [1, 0]),
                (down, FIELD, [1, 0]), (up, FIELD, [1, 0]), (slim_border, FIELD, [1, 0]), (grow, FIELD, 0, [1, 0]),
                (is_round, FIELD, [1, 0]), (filling, FIELD, [1, 0]), (bar, FIELD, [1, 0]),
                (slim_filling, FIELD, [1, 0]), (TOWER.down, [1, 0]), (TOWER.up, [1, 0]), (TOWER.filled, [1, 0]),
                (TOWER.slim_border, [1, 0]), (Room().deed, ("put", 1, [1, 0]))],
    "NoCell": [(Body().take, 0), (triangle().rank, 7), (triangle().border, -1), (triangle().over, GREAT),
               (triangle().border_of, [7]), (triangle().put, 1, [7]), (FIELD.tie, 0, 7), (FIELD.untie, 7),
               (FIELD.head_of, 7), (FIELD.tail_of, 7), (roads, FIELD, 7, 0), (only_road, FIELD, 0, 7),
               (filled, FIELD, [7]), (down, FIELD, [7]), (up, FIELD, [7]), (slim_border, FIELD, [7]),
               (cancel, FIELD, 7, 0), (fold, FIELD, 7), (grow, FIELD, 0, [7]), (is_round, FIELD, [7]),
               (filling, FIELD, [7]), (bar, FIELD, [7]), (slim_filling, FIELD, [7]), (TOWER.tie, 7, 7),
               (TOWER.down, [7]), (TOWER.up, [7]), (Room().deed, ("take", 0))],
    "BadRank": [(Body().put, 13, []), (Body().put, -1, []), (grow, FIELD, 12, []), (full_body, 7), (full_body, -1),
                (round_body, 0), (round_body, 61), (Room().deed, ("grow", GREAT, []))],
    "OtherRank": [(triangle().put, 2, [0]), (grow, FIELD, 1, [0])],
    "OpenBorder": [(triangle().put, 2, [3]), (tied_triangle().put, 2, [3, 4])],
    "Full": [(MANY.put, 0, []), (grow, MANY, 0, []), (apart, MANY, triangle(Field)), (product, MANY, triangle(Field))],
    "Covered": [(triangle().take, 0), (triangle(Field).take, 3), (fold, FIELD, 0)],
    "NotFace": [(FIELD.tie, 2, 3), (TOWER.tie, 0, 6)],
    "Tied": [(FIELD.tie, 0, 4), (FIELD.take, 0)],
    "NotTied": [(FIELD.untie, 2), (fold, FIELD, 3), (TOWER.untie, 0)],
    "RingOfArrows": [(FIELD.tie, 2, 4)],
    "NotLone": [(up, FIELD, [0]), (slim_border, FIELD, [3]), (roads, FIELD, 6, 0), (only_road, FIELD, 3, 2),
                (cancel, FIELD, 0, 1)],
    "ManyRoads": [(only_road, FIELD, 4, 2), (cancel, FIELD, 6, 2), (cancel, fan(40), 81, 40)],
    "Ground": [(TOWER.raze,)],
    "NothingBack": [(Room().back,)],
    "BadRow": [(read_sum, ""), (read_field, []), (read_field, ["next 1", "cell 1 0 -"])],
}


class EachRefusalTest(unittest.TestCase):
    def test_each_class_is_raised(self):
        names = [name for name in vars(errors) if isinstance(getattr(errors, name), errors.BodyError.__class__)]
        self.assertEqual(sorted([*REFUSED, "BodyError"]), sorted(name for name in names if name[0] != "_"))

    def test_caught_as_any_refusal(self):
        for name, asks in REFUSED.items():
            for ask, *values in asks:
                with self.subTest(name, ask=ask), self.assertRaises(errors.BodyError) as caught:
                    ask(*values)
                self.assertIs(caught.exception.__class__, getattr(errors, name))
                self.assertIsInstance(caught.exception, ValueError)
                self.assertIsInstance(str(caught.exception), str)

    def test_of_just_its_own_class(self):
        for name, asks in REFUSED.items():
            for ask, *values in asks:
                try:
                    ask(*values)
                except errors.BodyError as refusal:
                    others = [other for other in REFUSED if isinstance(refusal, getattr(errors, other))]
                    self.assertEqual(others, [name])

    def test_values(self):
        for name, value, ask in (("RingOfArrows", "ring", REFUSED["RingOfArrows"][0]),
                                 ("ManyRoads", "many", REFUSED["ManyRoads"][0]),
                                 ("BadRow", "at", REFUSED["BadRow"][2])):
            with self.assertRaises(getattr(errors, name)) as caught:
                ask[0](*ask[1:])
            self.assertEqual(getattr(caught.exception, value), {"ring": [2, 0, 1], "many": 2, "at": 1}[value])


if __name__ == "__main__":
    unittest.main()
