"""Points 2 and 28: rooms."""

import copy
import random
import unittest

from bodies import GREAT
from fields import any_deed, done_to, fan, soon, told_field
from slimbody.errors import (BadRank, BodyError, Covered, Full, ManyRoads, NoCell, NotASum, NotFace, NothingBack,
                             NotLone, NotTied, OpenBorder, OtherRank, RingOfArrows, Tied)
from slimbody.field import Field
from slimbody.room import Room

TRIANGLE = [("put", 0, []), ("put", 0, []), ("put", 0, []), ("put", 1, [0, 1]), ("put", 1, [0, 2]), ("put", 1, [1, 2]),
            ("put", 2, [3, 4, 5])]
# Each deed stands once at least, with what it tells.
DEEDS = [
    (("put", 0, []), 0), (("put", 0, []), 1), (("put", 0, []), 2), (("put", 1, [0, 1]), 3), (("put", 1, [0, 2]), 4),
    (("put", 1, [1, 2]), 5), (("put", 2, [3, 4, 5]), 6), (("put", 0, []), 7), (("take", 7), None),
    (("tie", 0, 3), None), (("cancel", 4, 1), [4, 0, 3, 1]), (("untie", 1), 3), (("settle",), [(1, 3), (5, 6)]),
    (("grow", 0, [0, 2]), (8, 9)), (("fold", 5), 6), (("grow", 1, []), (10, 11)), (("settle",), []), (("fold", 8), 9),
    (("untie", 10), 11), (("take", 11), None)]


def room_of(journal):
    """A new room with these deeds done."""
    room = Room()
    for what in journal:
        room.deed(what)
    return room


def told_room(room):
    """All that a room tells."""
    return told_field(room.field()), room.journal()


class RoomTest(unittest.TestCase):
    def assert_refused(self, refusal, room, what, **values):
        before, handed = told_room(room), copy.deepcopy(what)
        with self.assertRaises(refusal) as caught:
            room.deed(what)
        self.assertIs(caught.exception.__class__, refusal)
        self.assertEqual({name: value for name, value in vars(caught.exception).items()}, values)
        self.assertEqual(told_room(room), before)
        self.assertEqual(what, handed)


class DeedTest(RoomTest):
    def test_new(self):
        room = Room()
        self.assertEqual(told_room(room), (told_field(Field()), []))
        self.assertIs(room.field().__class__, Field)
        self.assertEqual(room.field().coming(), 0)

    def test_each_deed(self):
        room, field = Room(), Field()
        for count, (what, answer) in enumerate(DEEDS):
            told = room.deed(what)
            self.assertEqual(told, answer)
            self.assertIs(told.__class__, answer.__class__)
            self.assertEqual(done_to(field, what), answer)
            self.assertEqual(told_field(room.field()), told_field(field))
            self.assertEqual(room.journal(), [deed for deed, _ in DEEDS[:count + 1]])

    def test_a_deed_is_a_tuple(self):
        journal = room_of(TRIANGLE).journal()
        self.assertIs(journal.__class__, list)
        for what in journal:
            self.assertIs(what.__class__, tuple)
            self.assertIs(what[2].__class__, list)

    def test_a_deed_that_changes_nothing_is_put_in(self):
        room = Room()
        self.assertEqual(room.deed(("settle",)), [])
        self.assertEqual(room.journal(), [("settle",)])
        self.assertEqual(room.back(), ("settle",))
        self.assertEqual(room.journal(), [])

    def test_two_rooms_are_apart(self):
        one, other = Room(), Room()
        one.deed(("put", 0, []))
        self.assertEqual(told_room(other), told_room(Room()))

    def test_many_deeds(self):
        for seed in range(12):
            chance = random.Random(seed)
            room, field, journal = room_of(TRIANGLE), room_of(TRIANGLE).field(), list(TRIANGLE)
            for _ in range(120):
                what = any_deed(chance, field)
                try:
                    answer = done_to(field, what)
                except BodyError as refusal:
                    self.assert_refused(refusal.__class__, room, what, **vars(refusal))
                    continue
                journal.append(what)
                self.assertEqual(room.deed(what), answer)
                self.assertEqual(told_room(room), (told_field(field), journal))
            self.assertEqual(told_room(room_of(journal)), told_room(room))


class RefusalsTest(RoomTest):
    def test_put(self):
        room = room_of(TRIANGLE)
        for refusal, rank, border in (
                (BadRank, -1, []), (BadRank, 13, [1, 0]), (BadRank, GREAT, []), (NotASum, 1, [1, 0]),
                (NotASum, 1, [99, 99]), (NoCell, 1, [7]), (NoCell, 1, [GREAT]), (OtherRank, 2, [0]),
                (OtherRank, 0, [0]), (OpenBorder, 2, [3])):
            self.assert_refused(refusal, room, ("put", rank, border))

    def test_full(self):
        room = room_of(TRIANGLE + [("put", 0, [])] * 113)
        self.assert_refused(Full, room, ("put", 0, []))
        self.assert_refused(Full, room, ("grow", 0, []))
        room.deed(("take", 119))
        self.assert_refused(Full, room, ("grow", 0, []))
        room.deed(("take", 118))
        self.assertEqual(room.deed(("grow", 0, [0])), (120, 121))

    def test_arrows(self):
        room = room_of(TRIANGLE + [("tie", 0, 3), ("tie", 1, 5)])
        self.assert_refused(NoCell, room, ("tie", 7, 0))
        self.assert_refused(NotFace, room, ("tie", 2, 3))
        self.assert_refused(Tied, room, ("tie", 0, 4))
        self.assert_refused(RingOfArrows, room, ("tie", 2, 4), ring=[2, 0, 1])
        self.assert_refused(NoCell, room, ("untie", 7))
        self.assert_refused(NotTied, room, ("untie", 2))
        self.assert_refused(NotTied, room, ("untie", 3))

    def test_take(self):
        room = room_of(TRIANGLE + [("tie", 4, 6)])
        self.assert_refused(NoCell, room, ("take", 7))
        self.assert_refused(Tied, room, ("take", 6))
        self.assert_refused(Tied, room, ("take", 4))
        self.assert_refused(Covered, room, ("take", 3))

    def test_cancel(self):
        room = room_of(TRIANGLE + [("tie", 0, 3), ("tie", 1, 5)])
        self.assert_refused(NoCell, room, ("cancel", 4, 7))
        self.assert_refused(NotLone, room, ("cancel", 4, 0))
        self.assert_refused(ManyRoads, room, ("cancel", 4, 2), many=2)
        self.assert_refused(ManyRoads, room, ("cancel", 6, 2), many=0)
        self.assert_refused(ManyRoads, room, ("cancel", 4, 4), many=0)

    def test_very_many_roads(self):
        field = fan(40)
        room = Room()
        for cell in field.cells():
            room.deed(("put", field.rank(cell), field.border(cell)))
        for low, high in field.arrows():
            room.deed(("tie", low, high))
        with soon():
            self.assert_refused(ManyRoads, room, ("cancel", 81, 40), many=2 ** 40)

    def test_fold_and_grow(self):
        room = room_of(TRIANGLE + [("tie", 0, 3)])
        self.assert_refused(NoCell, room, ("fold", 7))
        self.assert_refused(NotTied, room, ("fold", 3))
        self.assert_refused(Covered, room, ("fold", 0))
        self.assert_refused(BadRank, room, ("grow", 12, [1, 0]))
        self.assert_refused(BadRank, room, ("grow", -1, []))
        self.assert_refused(NotASum, room, ("grow", 0, [9, 9]))
        self.assert_refused(NoCell, room, ("grow", 0, [3, 9]))
        self.assert_refused(OtherRank, room, ("grow", 0, [3]))

    def test_a_deed_behind_a_refused_one(self):
        room = room_of(TRIANGLE)
        self.assert_refused(Covered, room, ("take", 0))
        self.assertEqual(room.deed(("tie", 0, 3)), None)
        self.assertEqual(room.journal(), TRIANGLE + [("tie", 0, 3)])
        self.assert_refused(Tied, room, ("tie", 0, 4))
        self.assertEqual(room.back(), ("tie", 0, 3))
        self.assertEqual(told_room(room), told_room(room_of(TRIANGLE)))


class BackTest(RoomTest):
    def test_nothing_back(self):
        for room in (Room(), room_of(TRIANGLE)):
            for _ in room.journal():
                room.back()
            before = told_room(room)
            with self.assertRaises(NothingBack) as caught:
                room.back()
            self.assertIs(caught.exception.__class__, NothingBack)
            self.assertEqual(told_room(room), before)
        self.assertEqual(before, told_room(Room()))

    def test_each_deed(self):
        room, shown = Room(), []
        for what, _ in DEEDS:
            shown.append(told_room(room))
            room.deed(what)
        for what, _ in reversed(DEEDS):
            told = room.back()
            self.assertEqual(told, what)
            self.assertIs(told.__class__, tuple)
            self.assertEqual(told_room(room), shown.pop())
        self.assertEqual(told_room(room), told_room(Room()))

    def test_the_next_number_comes_back(self):
        room = room_of([("put", 0, []), ("put", 0, [])])
        self.assertEqual(room.back(), ("put", 0, []))
        self.assertEqual(room.field().coming(), 1)
        self.assertEqual(room.deed(("put", 0, [])), 1)
        room.deed(("take", 1))
        self.assertEqual(room.field().coming(), 2)
        self.assertEqual(room.back(), ("take", 1))
        self.assertEqual((room.field().cells(), room.field().coming()), ([0, 1], 2))
        room.deed(("grow", 0, [0]))
        self.assertEqual(room.field().coming(), 4)
        room.back()
        self.assertEqual(room.field().coming(), 2)

    def test_arrows_come_back(self):
        room = room_of(TRIANGLE + [("tie", 0, 3)])
        for what in (("untie", 0), ("cancel", 4, 1), ("settle",)):
            before = told_room(room)
            room.deed(what)
            self.assertNotEqual(room.field().arrows(), [(0, 3)])
            self.assertEqual(room.back(), what)
            self.assertEqual(told_room(room), before)

    def test_taken_back_and_done_again(self):
        room = Room()
        for what, answer in DEEDS:
            for _ in range(2):
                self.assertEqual(room.deed(what), answer)
                behind = told_room(room)
                self.assertEqual(room.back(), what)
            room.deed(what)
            self.assertEqual(told_room(room), behind)

    def test_taken_back_and_done_otherwise(self):
        room = room_of(TRIANGLE)
        room.deed(("tie", 0, 3))
        room.back()
        room.deed(("tie", 0, 4))
        self.assertEqual(room.field().arrows(), [(0, 4)])
        self.assertEqual(room.journal(), TRIANGLE + [("tie", 0, 4)])
        room.back()
        room.back()
        self.assertEqual(told_room(room), told_room(room_of(TRIANGLE[:-1])))

    def test_many_deeds_by_turns(self):
        for seed in range(12):
            chance = random.Random(seed)
            room = room_of(TRIANGLE)
            shown, journal = [], list(TRIANGLE)
            for _ in range(120):
                if shown and chance.randrange(4) == 0:
                    self.assertEqual(room.back(), journal.pop())
                    self.assertEqual(told_field(room.field()), shown.pop())
                    continue
                before, what = told_field(room.field()), any_deed(chance, room.field())
                try:
                    room.deed(what)
                except BodyError:
                    continue
                shown.append(before)
                journal.append(what)
                self.assertEqual(room.journal(), journal)
            self.assertEqual(told_room(room_of(room.journal())), told_room(room))

    def test_a_long_journal(self):
        room = Room()
        with soon():
            for _ in range(1000):
                room.deed(("put", 0, []))
                room.deed(("take", room.field().cells()[-1]))
            self.assertEqual((len(room.journal()), room.field().coming()), (2000, 1000))
            for _ in range(2000):
                room.back()
        self.assertEqual(told_room(room), told_room(Room()))


class OwnTest(RoomTest):
    def test_deeds_handed_in(self):
        room = room_of(TRIANGLE)
        border, row = [0, 1], [0, 2]
        room.deed(("put", 1, border))
        room.deed(("grow", 0, row))
        before = told_room(room)
        border.append(2)
        row.clear()
        self.assertEqual(told_room(room), before)
        self.assertEqual(room.journal()[-2:], [("put", 1, [0, 1]), ("grow", 0, [0, 2])])
        self.assertEqual([room.back(), room.back()], [("grow", 0, [0, 2]), ("put", 1, [0, 1])])

    def test_what_is_handed_in_stays(self):
        what = ("grow", 0, [0, 2])
        room_of(TRIANGLE).deed(what)
        self.assertEqual(what, ("grow", 0, [0, 2]))

    def test_journal(self):
        room = room_of(TRIANGLE)
        before = told_room(room)
        journal = room.journal()
        journal[3][2].append(77)
        journal[6][2].clear()
        journal.pop()
        journal.append(("take", 0))
        self.assertEqual(told_room(room), before)
        self.assertEqual(room.back(), ("put", 2, [3, 4, 5]))

    def test_field(self):
        room = room_of(TRIANGLE + [("tie", 0, 3)])
        before = told_room(room)
        field = room.field()
        field.untie(0)
        field.take(6)
        field.put(0, [])
        self.assertEqual(told_room(room), before)
        room.deed(("take", 6))
        self.assertEqual(field.cells(), [0, 1, 2, 3, 4, 5, 7])

    def test_what_a_deed_told(self):
        room = room_of(TRIANGLE)
        for what in (("settle",), ("untie", 1), ("cancel", 5, 2)):
            told = room.deed(what)
            before = told_room(room)
            if isinstance(told, list):
                told.append(99)
                told[0] = 98
            self.assertEqual(told_room(room), before)

    def test_a_deed_taken_back_that_is_changed(self):
        room = room_of(TRIANGLE)
        told = room.back()
        told[2].append(99)
        self.assertEqual(told_room(room), told_room(room_of(TRIANGLE[:-1])))
        room.deed(("put", 2, [3, 4, 5]))
        self.assertEqual(told_room(room), told_room(room_of(TRIANGLE)))

    def test_a_deed_done_twice_by_the_same_tuple(self):
        what = ("put", 1, [0, 1])
        room = room_of(TRIANGLE + [what, what])
        what[2].append(2)
        self.assertEqual(room.journal()[-2:], [("put", 1, [0, 1])] * 2)
        room.journal()[-1][2].append(5)
        self.assertEqual(room.back(), ("put", 1, [0, 1]))
        self.assertEqual(room.back(), ("put", 1, [0, 1]))

    def test_the_journal_in_a_new_room(self):
        room = room_of([what for what, _ in DEEDS])
        again = room_of(room.journal())
        self.assertEqual(told_room(again), told_room(room))
        again.back()
        again.deed(("put", 0, []))
        self.assertEqual(told_room(room), told_room(room_of([what for what, _ in DEEDS])))

    def test_a_changed_ring(self):
        room = room_of(TRIANGLE + [("tie", 0, 3), ("tie", 1, 5)])
        before = told_room(room)
        with self.assertRaises(RingOfArrows) as caught:
            room.deed(("tie", 2, 4))
        caught.exception.ring.clear()
        self.assertEqual(told_room(room), before)
        self.assert_refused(RingOfArrows, room, ("tie", 2, 4), ring=[2, 0, 1])


if __name__ == "__main__":
    unittest.main()
