"""Points 2, 7, 14, 15, 16 and 17: the carriers."""

import random
import unittest

from bodies import GREAT, triangle
from fields import (fan, filler_by_words, full_field, grid, many_fields, retied, settled, some_sums, soon, tied_row,
                    tied_triangle, told_field, with_gaps)
from slimbody.carry import down, filled, slim_border, up
from slimbody.errors import NoCell, NotASum, NotLone
from slimbody.field import Field
from slimbody.roads import roads
from slimbody.sums import total


class FilledTest(unittest.TestCase):
    def test_nothing(self):
        for field in (Field(), triangle(Field), tied_triangle()):
            self.assertEqual(filled(field, []), [])

    def test_without_arrows(self):
        field = triangle(Field)
        self.assertEqual(filled(field, field.cells()), [])

    def test_lone_cells_and_heads(self):
        field = tied_triangle()
        for cell in (2, 3, 4, 5, 6):
            self.assertEqual(filled(field, [cell]), [])
        self.assertEqual(filled(field, [2, 3, 4, 5, 6]), [])

    def test_tails(self):
        field = tied_triangle()
        self.assertEqual(filled(field, [1]), [5])
        self.assertEqual(filled(field, [0]), [3, 5])

    def test_sums(self):
        field = tied_triangle()
        self.assertEqual(filled(field, [0, 1]), [3])
        self.assertEqual(filled(field, [0, 1, 2, 3, 4, 5, 6]), [3])
        self.assertEqual(filled(field, [0, 2, 4]), [3, 5])

    def test_a_tail_with_more_tails_in_its_heads_border(self):
        field = fan(3)
        # The heads are 4 to 6; the head of 0 has the tails 1 and 2 in its border, that of 1 the tail 2.
        self.assertEqual(filled(field, [2]), [6])
        self.assertEqual(filled(field, [1]), [5, 6])
        self.assertEqual(filled(field, [0]), [4, 5])

    def test_unlike_ranks(self):
        field = settled(full_field(4))
        for row in ([0, 4, 10], [1, 2, 7, 13], field.cells()):
            self.assertEqual(filled(field, row), filler_by_words(field, row))

    def test_by_words(self):
        for number, field in enumerate(many_fields()):
            for row in some_sums(field.cells(), random.Random(number)):
                self.assertEqual(filled(field, row), filler_by_words(field, row))

    def test_is_added_of_its_cells(self):
        for number, field in enumerate(many_fields()):
            for row in some_sums(field.cells(), random.Random(number), 4):
                self.assertEqual(filled(field, row), total([filled(field, [cell]) for cell in row]))

    def test_soon(self):
        field = fan(59)
        with soon():
            self.assertEqual(filled(field, [0]), [60, 61])
            self.assertEqual(filled(field, [58]), [118])
            # All fillers but the last are two heads side by side.
            self.assertEqual(filled(field, list(range(59))), [60])
            self.assertEqual(filled(field, list(range(0, 59, 2))), list(range(60, 119)))

    def test_a_long_row_soon(self):
        field = tied_row(60)
        with soon():
            self.assertEqual(filled(field, [1]), list(range(61, 119)))
            self.assertEqual(filled(field, [58]), [118])
            self.assertEqual(filled(field, [1, 58]), list(range(61, 118)))


class DownTest(unittest.TestCase):
    def test_triangle(self):
        field = tied_triangle()
        for row, carried in (([], []), ([0], [2]), ([1], [2]), ([2], [2]), ([0, 1], []), ([0, 1, 2], [2]), ([3], []),
                             ([4], [4]), ([5], []), ([3, 4, 5], [4]), ([6], [6]), ([0, 3, 4, 6], [2, 4, 6])):
            self.assertEqual(down(field, row), carried)

    def test_without_arrows(self):
        field = triangle(Field)
        for row in ([], [0], [0, 3, 6], field.cells()):
            self.assertEqual(down(field, row), row)

    def test_with_a_tail_in_the_border_of_a_head(self):
        field = triangle(Field)
        field.tie(4, 6)
        self.assertEqual(down(field, [4]), [3, 5])
        self.assertEqual(down(field, [3, 4]), [5])
        self.assertEqual(down(field, [6]), [])

    def test_by_words(self):
        for number, field in enumerate(many_fields()):
            for row in some_sums(field.cells(), random.Random(number)):
                whole = total([row, field.border_of(filler_by_words(field, row))])
                self.assertEqual(down(field, row), [cell for cell in whole if cell in field.lone()])

    def test_soon(self):
        with soon():
            self.assertEqual(down(fan(59), [0]), [])
            self.assertEqual(down(fan(59), [58, 119]), [59, 119])
            self.assertEqual(down(tied_row(60), [1]), [59])


class UpTest(unittest.TestCase):
    def test_triangle(self):
        field = tied_triangle()
        for row, carried in (([], []), ([2], [2]), ([4], [3, 4, 5]), ([2, 4], [2, 3, 4, 5]), ([6], [6]),
                             ([4, 6], [3, 4, 5, 6])):
            self.assertEqual(up(field, row), carried)

    def test_without_arrows(self):
        field = triangle(Field)
        for row in ([], [0], [0, 3, 6], field.cells()):
            self.assertEqual(up(field, row), row)

    def test_by_words(self):
        for number, field in enumerate(many_fields()):
            for row in some_sums(field.lone(), random.Random(number)):
                self.assertEqual(up(field, row), total([row, filler_by_words(field, field.border_of(row))]))

    def test_soon(self):
        with soon():
            self.assertEqual(up(fan(59), [59, 119]), [59, 60, 119])
            self.assertEqual(up(tied_row(60), [60]), list(range(60, 119)))


class SlimBorderTest(unittest.TestCase):
    def test_triangle(self):
        field = tied_triangle()
        for row, border in (([], []), ([2], []), ([4], []), ([6], [4]), ([2, 4, 6], [4])):
            self.assertEqual(slim_border(field, row), border)

    def test_one_arrow(self):
        field = triangle(Field)
        field.tie(0, 3)
        self.assertEqual(slim_border(field, [4]), [1, 2])
        self.assertEqual(slim_border(field, [5]), [1, 2])
        self.assertEqual(slim_border(field, [4, 5]), [])
        self.assertEqual(slim_border(field, [6]), [4, 5])

    def test_without_arrows(self):
        field = triangle(Field)
        for row in ([], [0], [3], [3, 6], field.cells()):
            self.assertEqual(slim_border(field, row), field.border_of(row))

    def test_by_words(self):
        for number, field in enumerate(many_fields()):
            for row in some_sums(field.lone(), random.Random(number)):
                carried = total([row, filler_by_words(field, field.border_of(row))])
                border = [cell for cell in field.border_of(carried) if cell in field.lone()]
                self.assertEqual(slim_border(field, row), border)

    def test_soon(self):
        with soon():
            self.assertEqual(slim_border(fan(59), [119]), [])
            self.assertEqual(slim_border(tied_row(60), [60]), [0, 59])


class RefusalsTest(unittest.TestCase):
    def assert_refused(self, refusal, ask, field, row):
        before = told_field(field)
        handed = list(row)
        with self.assertRaises(refusal) as caught:
            ask(field, handed)
        self.assertIs(caught.exception.__class__, refusal)
        self.assertEqual(handed, row)
        self.assertEqual(told_field(field), before)

    def test_not_a_sum(self):
        for ask in (filled, down, up, slim_border):
            for row in ([2, 2], [4, 2], [GREAT, 2], [1, 0], [0, 0], [99, 0], [99, 99]):
                self.assert_refused(NotASum, ask, tied_triangle(), row)

    def test_no_cell(self):
        field = tied_triangle()
        field.take(field.put(0, []))
        for ask in (filled, down, up, slim_border):
            for cell in (-1, 7, 8, GREAT, -GREAT):
                self.assert_refused(NoCell, ask, field, [cell])
                self.assert_refused(NoCell, ask, field, sorted([2, cell]))
                self.assert_refused(NoCell, ask, field, sorted([0, cell]))
                self.assert_refused(NoCell, ask, field, sorted([0, 5, cell]))
            self.assert_refused(NoCell, ask, Field(), [0])

    def test_not_lone(self):
        for ask in (up, slim_border):
            for row in ([0], [1], [3], [5], [0, 1], [2, 3], [0, 2, 4, 6], [2, 4, 5, 6], [0, 3]):
                self.assert_refused(NotLone, ask, tied_triangle(), row)

    def test_tied_cells_are_filled_and_carried_down(self):
        for ask in (filled, down):
            for row in ([0], [3], [0, 1, 2, 3, 4, 5, 6]):
                self.assertIsInstance(ask(tied_triangle(), row), list)

    def test_lone_again(self):
        field = tied_triangle()
        field.untie(1)
        self.assertEqual(up(field, [1, 5]), [1, 5])
        self.assert_refused(NotLone, up, field, [0])


class ListsTest(unittest.TestCase):
    def test_what_is_handed_in_stays(self):
        field = tied_triangle()
        before = told_field(field)
        for ask in (filled, down, up, slim_border):
            for row in ([], [2], [4], [2, 4, 6]):
                handed = list(row)
                answer = ask(field, handed)
                self.assertEqual(handed, row)
                self.assertIsNot(answer, handed)
                self.assertEqual(told_field(field), before)

    def test_told_lists_are_the_askers_own(self):
        field = tied_triangle()
        before = told_field(field)
        for ask, row in ((filled, [0]), (filled, [2]), (down, [0, 4]), (up, [4]), (up, [2]), (slim_border, [6])):
            answer = ask(field, row)
            self.assertIs(answer.__class__, list)
            kept = list(answer)
            answer.append(77)
            answer.insert(0, -5)
            self.assertEqual(told_field(field), before)
            self.assertEqual(ask(field, row), kept)

    def test_changing_what_was_handed_in_changes_nothing(self):
        field = triangle(Field)
        for ask in (down, up):
            row = [0, 3]
            answer = ask(field, row)
            row.clear()
            self.assertEqual(answer, [0, 3])


class SentencesTest(unittest.TestCase):
    """Point 17, sentence by sentence, on many fields."""

    def each_sum(self):
        """Each of many fields with some sums of its cells."""
        for number, field in enumerate(many_fields()):
            for row in some_sums(field.cells(), random.Random(number)):
                yield field, row

    def each_lone_sum(self):
        """Each of many fields with some sums of its lone cells."""
        for number, field in enumerate(many_fields()):
            for row in some_sums(field.lone(), random.Random(number)):
                yield field, row

    def test_the_slim_border_of_a_slim_border_is_nothing(self):
        for field, row in self.each_lone_sum():
            self.assertEqual(slim_border(field, slim_border(field, row)), [])

    def test_carrying_down_goes_with_borders(self):
        for field, row in self.each_sum():
            self.assertEqual(down(field, field.border_of(row)), slim_border(field, down(field, row)))

    def test_carrying_up_goes_with_borders(self):
        for field, row in self.each_lone_sum():
            self.assertEqual(field.border_of(up(field, row)), up(field, slim_border(field, row)))

    def test_up_and_then_down(self):
        for field, row in self.each_lone_sum():
            self.assertEqual(down(field, up(field, row)), row)

    def test_down_and_then_up(self):
        for field, row in self.each_sum():
            whole = total([row, field.border_of(filled(field, row)), filled(field, field.border_of(row))])
            self.assertEqual(up(field, down(field, row)), whole)

    def test_what_is_nothing(self):
        for field, row in self.each_sum():
            filler = filled(field, row)
            self.assertEqual((filled(field, filler), down(field, filler)), ([], []))
        for field, row in self.each_lone_sum():
            self.assertEqual(filled(field, up(field, row)), [])

    def test_odd_roads(self):
        odd, even = 0, 0
        for field in many_fields():
            for high in field.lone():
                border = slim_border(field, [high])
                for low in field.lone():
                    many = roads(field, high, low)
                    self.assertEqual(low in border, many % 2 == 1)
                    odd += many % 2 == 1 and many > 1
                    even += many % 2 == 0 and many > 1
        self.assertGreater(min(odd, even), 10)

    def test_behind_each_of_many_deeds(self):
        field = with_gaps(grid(2, 2))
        for deed in (settled, retied, settled, retied):
            deed(field)
            for row in some_sums(field.cells(), random.Random(5)):
                self.assertEqual(down(field, field.border_of(row)), slim_border(field, down(field, row)))
                whole = total([row, field.border_of(filled(field, row)), filled(field, field.border_of(row))])
                self.assertEqual(up(field, down(field, row)), whole)
            field.untie(field.tails()[0])

    def test_great_fields(self):
        for field in (fan(59), tied_row(60), settled(grid(5, 5)), settled(full_field(6))):
            with soon():
                for row in some_sums(field.cells(), random.Random(7), 2)[:40]:
                    self.assertEqual(down(field, field.border_of(row)), slim_border(field, down(field, row)))
                    whole = total([row, field.border_of(filled(field, row)), filled(field, field.border_of(row))])
                    self.assertEqual(up(field, down(field, row)), whole)


if __name__ == "__main__":
    unittest.main()
