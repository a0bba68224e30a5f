"""Points 2, 7 and 21: rounds, fillings and bars."""

import itertools
import random
import unittest

from bodies import GREAT, full, points, triangle
from cases import FieldTest
from fields import (closed_row, dense, evens, fan, full_field, grid, many_fields, retied, row_of_points, rounds_of,
                    settled, some_sums, soon, tied_row, tied_triangle, told_field, with_gaps)
from slimbody.body import Body
from slimbody.carry import down
from slimbody.deeds import cancel, settle
from slimbody.errors import NoCell, NotASum
from slimbody.field import Field, field_on
from slimbody.rounds import bar, filling, is_round, slim_filling
from slimbody.slim import slim_body
from slimbody.sums import evenly, is_sum, total

ASKS = [is_round, filling, bar]


def all_sums(cells):
    """All sums of the cells."""
    return [list(row) for length in range(len(cells) + 1) for row in itertools.combinations(cells, length)]


def some_rounds(field, chance, count=6):
    """Nothing, and sums of unlike ranks whose borders are nothing."""
    parts = [sorted(row) for rank in range(13) for row in rounds_of(field, rank)]
    return [[]] + parts + [total([row for row in parts if chance.randrange(2)]) for _ in range(count)]


class RoundsTest(FieldTest):
    def assert_filling(self, body, row, told):
        """It is a sum of standing cells whose border the row is."""
        self.assertIs(told.__class__, list)
        self.assertTrue(is_sum(told))
        self.assertEqual(body.border_of(told), row)

    def assert_bar(self, body, row, told):
        """It is a sum of standing cells that meets each border evenly and the row not evenly."""
        self.assertIs(told.__class__, list)
        self.assertTrue(is_sum(told))
        for cell in told:
            self.assertTrue(body.stands(cell))
        for cell in body.cells():
            self.assertTrue(evenly(told, body.border(cell)))
        self.assertFalse(evenly(told, row))

    def assert_either(self, body, row):
        """Just one of the two is told; whether it is the filling."""
        handed = list(row)
        with soon():
            one, other = filling(body, handed), bar(body, handed)
        self.assertEqual(handed, row)
        self.assertEqual((one is None) + (other is None), 1)
        if other is None:
            self.assert_filling(body, row, one)
        else:
            self.assert_bar(body, row, other)
        return other is None

    def assert_slim(self, field, row):
        """Nothing where the sum is no round or has no filling, else a filling; by way of the slim body too."""
        before, handed = told_field(field), list(row)
        with soon():
            told = slim_filling(field, handed)
        self.assertEqual(handed, row)
        self.assertEqual(told_field(field), before)
        if field.border_of(row):
            self.assertIsNone(told)
            return
        body, names = slim_body(field)
        carried = sorted(names.index(cell) for cell in down(field, row))
        self.assertEqual(self.assert_either(field, row), told is not None)
        self.assertEqual(self.assert_either(body, carried), told is not None)
        if told is not None:
            self.assert_filling(field, row, told)


class IsRoundTest(RoundsTest):
    def test_triangle(self):
        for body in (triangle(), triangle(Field), tied_triangle()):
            for row in ([], [0], [1, 2], [0, 1, 2], [3, 4, 5], [0, 3, 4, 5]):
                self.assertIs(is_round(body, row), True)
            for row in ([3], [3, 4], [6], [0, 6], [3, 4, 5, 6], [0, 3], body.cells()):
                self.assertIs(is_round(body, row), False)

    def test_without_cells(self):
        self.assertIs(is_round(Body(), []), True)
        self.assertIs(is_round(Field(), []), True)

    def test_a_border_of_nothing_at_any_rank(self):
        body = Body()
        for rank in range(13):
            self.assertIs(is_round(body, [body.put(rank, [])]), True)
        self.assertIs(is_round(body, body.cells()), True)

    def test_by_the_border(self):
        for number, field in enumerate(many_fields()):
            for row in some_sums(field.cells(), random.Random(number)) + some_rounds(field, random.Random(number)):
                self.assertIs(is_round(field, row), field.border_of(row) == [])

    def test_borders_are_rounds(self):
        for number, field in enumerate(many_fields()):
            for row in some_sums(field.cells(), random.Random(number)):
                self.assertIs(is_round(field, field.border_of(row)), True)


class FillingAndBarTest(RoundsTest):
    def test_nothing(self):
        for body in (Body(), Field(), triangle(), tied_triangle(), points(3), full()):
            self.assertTrue(self.assert_either(body, []))
            self.assertIsNone(bar(body, []))

    def test_nothing_is_filled_by_a_round(self):
        body = triangle()
        self.assertEqual(body.border_of(filling(body, [])), [])

    def test_triangle(self):
        body = triangle()
        self.assertEqual(filling(body, [3, 4, 5]), [6])
        self.assertIsNone(bar(body, [3, 4, 5]))
        self.assertIn(filling(body, [0, 1]), ([3], [4, 5]))
        self.assertIsNone(filling(body, [0]))
        self.assertEqual(bar(body, [0]), [0, 1, 2])
        self.assertIsNone(filling(body, [6]))
        self.assertIn(6, bar(body, [6]))

    def test_without_the_triangle(self):
        body = triangle()
        body.take(6)
        self.assertIsNone(filling(body, [3, 4, 5]))
        self.assertFalse(self.assert_either(body, [3, 4, 5]))

    def test_all_sums_by_words(self):
        gaps = with_gaps(triangle(Field))
        odd = Field()
        for rank, border in ((0, []), (1, [0]), (0, []), (1, []), (2, [3]), (1, [0, 2])):
            odd.put(rank, border)
        for body in (triangle(), tied_triangle(), gaps, row_of_points(4), closed_row(3), closed_row(1), odd, points(3)):
            sums = all_sums(body.cells())
            borders = [body.border_of(row) for row in sums]
            for row in sums:
                self.assertEqual(self.assert_either(body, row), row in borders)

    def test_unlike_ranks(self):
        body = triangle()
        self.assertTrue(self.assert_either(body, [0, 1, 3, 4, 5]))
        self.assertFalse(self.assert_either(body, [0, 3, 4, 5]))
        self.assertFalse(self.assert_either(body, [0, 1, 6]))
        self.assertFalse(self.assert_either(body, body.cells()))

    def test_no_round_has_a_bar(self):
        for number, field in enumerate(many_fields()):
            for row in some_sums(field.cells(), random.Random(number)):
                if not is_round(field, row):
                    self.assertFalse(self.assert_either(field, row))

    def test_borders_have_fillings(self):
        for number, field in enumerate(many_fields()):
            for row in some_sums(field.cells(), random.Random(number)):
                self.assertTrue(self.assert_either(field, field.border_of(row)))

    def test_rounds_of_many_fields(self):
        kinds = set()
        for number, field in enumerate(many_fields()):
            for row in some_rounds(field, random.Random(number)):
                kinds.add(self.assert_either(field, row))
        self.assertEqual(kinds, {True, False})

    def test_twins_as_bodies(self):
        for number, field in enumerate(many_fields()):
            body = slim_body(field_on(field))[0]
            for row in some_sums(body.cells(), random.Random(number), 4):
                self.assert_either(body, row)

    def test_arrows_change_nothing(self):
        bare, tied = triangle(Field), tied_triangle()
        for row in all_sums(bare.cells()):
            self.assertEqual(self.assert_either(bare, row), self.assert_either(tied, row))

    def test_a_closed_row(self):
        field = closed_row(60)
        self.assertFalse(self.assert_either(field, list(range(60, 120))))
        self.assertTrue(self.assert_either(field, [0, 30]))
        self.assertTrue(self.assert_either(field, list(range(60))))
        self.assertFalse(self.assert_either(field, list(range(59))))
        self.assertEqual(bar(field, list(range(59))), list(range(60)))

    def test_rank_12(self):
        body = Body()
        body.put(11, [])
        body.put(12, [0])
        body.put(11, [])
        self.assertEqual(filling(body, [0]), [1])
        self.assertIsNone(filling(body, [2]))
        self.assertFalse(self.assert_either(body, [1]))

    def test_soon(self):
        for field in (dense(60, 60, 1), dense(60, 60, 2), fan(59), grid(5, 6), full_field(6), full(),
                      points(120), closed_row(60)):
            for row in some_sums(field.cells(), random.Random(4), 3)[-12:]:
                self.assert_either(field, row)
                self.assert_either(field, field.border_of(row))


class SlimFillingTest(RoundsTest):
    def test_nothing(self):
        for field in (Field(), triangle(Field), tied_triangle()):
            self.assert_filling(field, [], slim_filling(field, []))

    def test_triangle(self):
        for field in (triangle(Field), tied_triangle(), settled(triangle(Field))):
            self.assertEqual(slim_filling(field, [3, 4, 5]), [6])
            for row in ([0, 1], [1, 2], [0, 2]):
                self.assert_filling(field, row, slim_filling(field, row))
            for row in ([0], [0, 1, 2], [3], [6], [0, 3, 4, 5], field.cells()):
                self.assertIsNone(slim_filling(field, row))

    def test_all_sums(self):
        for field in (triangle(Field), tied_triangle(), settled(triangle(Field)), with_gaps(tied_triangle()),
                      tied_row(4), settled(closed_row(3)), settled(with_gaps(closed_row(3)))):
            for row in all_sums(field.cells()):
                self.assert_slim(field, row)

    def test_a_tail_alone_is_filled(self):
        field = Field()
        field.put(0, [])
        field.put(1, [0])
        field.tie(0, 1)
        self.assertEqual(slim_filling(field, [0]), [1])

    def test_many_fields(self):
        for number, field in enumerate(many_fields()):
            chance = random.Random(number)
            for row in some_sums(field.cells(), chance, 4)[-6:] + some_rounds(field, chance)[-8:]:
                self.assert_slim(field, row)
                self.assert_slim(field, field.border_of(row))

    def test_soon(self):
        for field in (dense(60, 60, 1), settled(dense(60, 60, 2)), fan(59), settled(grid(5, 6)),
                      settled(full_field(6)), tied_row(60), points(120, Field)):
            for row in some_sums(field.cells(), random.Random(4), 2)[-4:]:
                self.assert_slim(field, row)
                self.assert_slim(field, field.border_of(row))


class RefusalsTest(RoundsTest):
    def each_ask(self):
        """Each body or field with each def that may be asked of it."""
        for body in (triangle(), triangle(Field), tied_triangle(), settled(triangle(Field))):
            for ask in ASKS + [slim_filling] * isinstance(body, Field):
                yield body, ask

    def refuse(self, refusal, body, ask, row):
        before, handed = told_field(body) if isinstance(body, Field) else None, list(row)
        with self.assertRaises(refusal) as caught:
            ask(body, handed)
        self.assertIs(caught.exception.__class__, refusal)
        self.assertEqual(handed, row)
        self.assertEqual(told_field(body) if isinstance(body, Field) else None, before)

    def test_not_a_sum(self):
        for body, ask in self.each_ask():
            for row in ([1, 0], [0, 0], [3, 4, 4], [6, 0], [GREAT, 0], [99, 99], [0, -1]):
                self.refuse(NotASum, body, ask, row)

    def test_no_cell(self):
        for body, ask in self.each_ask():
            body.take(body.put(0, []))
            for cell in (-1, body.coming() - 1, body.coming(), GREAT, -GREAT):
                self.refuse(NoCell, body, ask, [cell])
                self.refuse(NoCell, body, ask, sorted([0, cell]))
                self.refuse(NoCell, body, ask, sorted([3, cell]))

    def test_without_cells(self):
        for ask in ASKS:
            self.refuse(NoCell, Body(), ask, [0])
            self.refuse(NotASum, Body(), ask, [0, 0])
        self.refuse(NoCell, Field(), slim_filling, [0])
        self.refuse(NotASum, Field(), slim_filling, [0, 0])

    def test_tied_cells_are_not_refused(self):
        field = tied_triangle()
        for ask in ASKS + [slim_filling]:
            for row in ([0], [3], [0, 1], [3, 4, 5], [0, 6]):
                ask(field, row)


class OwnTest(RoundsTest):
    def test_told_lists_are_the_askers_own(self):
        field = tied_triangle()
        before = told_field(field)
        for ask, row in ((filling, [3, 4, 5]), (filling, []), (bar, [0]), (bar, [6]), (slim_filling, [0, 1]),
                         (slim_filling, [])):
            told = ask(field, row)
            kept = list(told)
            told.append(77)
            told.insert(0, -5)
            self.assertEqual(told_field(field), before)
            self.assertEqual(ask(field, row), kept)

    def test_what_is_handed_in_is_not_told(self):
        field = closed_row(1)
        for ask in (filling, slim_filling):
            row = []
            told = ask(field, row)
            row.append(0)
            self.assertEqual(told, [])

    def test_twins(self):
        body = triangle()
        twin = body.twin()
        twin.take(6)
        self.assertEqual(filling(body, [3, 4, 5]), [6])
        self.assertIsNone(filling(twin, [3, 4, 5]))

    def test_asked_again(self):
        body = Body()
        body.put(0, [])
        body.put(0, [])
        self.assertFalse(self.assert_either(body, [0, 1]))
        body.put(1, [0, 1])
        self.assertEqual(filling(body, [0, 1]), [2])
        body.take(2)
        self.assertFalse(self.assert_either(body, [0, 1]))
        body.put(1, [0])
        self.assertEqual(filling(body, [0]), [3])
        self.assertFalse(self.assert_either(body, [0, 1]))
        body.put(1, [1])
        self.assertEqual(filling(body, [0, 1]), [3, 4])

    def test_slim_filling_asked_again(self):
        field = with_gaps(grid(2, 3))
        rows = some_rounds(field, random.Random(8))
        for deed in (settle, retied, settle, retied):
            deed(field)
            for row in rows:
                self.assert_slim(field, row)

    def test_behind_cancelling(self):
        field = tied_row(6)
        self.assert_slim(field, [0, 5])
        cancel(field, 6, 5)
        self.assert_slim(field, [0, 5])
        self.assertEqual(slim_filling(field, [0, 5]), list(range(6, 11)))
        self.assertEqual(slim_filling(field, evens(2, 4)), [8, 9])


if __name__ == "__main__":
    unittest.main()
