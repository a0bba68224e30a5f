"""Points 2, 26 and 27: sums and fields, written and read."""

import unittest

from bodies import points, triangle
from fields import (closed_row, fan, full_field, grid, many_fields, rebuilt, settled, soon, tied_row, tied_triangle,
                    told_field, with_gaps)
from slimbody.carry import down
from slimbody.deeds import settle
from slimbody.errors import BadRow, NotASum
from slimbody.field import Field
from slimbody.notes import read_field, read_sum, shown_sum, written
from slimbody.rounds import bar, filling, slim_filling
from slimbody.slim import slim_body

TRIANGLE = ["next 7", "cell 0 0 -", "cell 1 0 -", "cell 2 0 -", "cell 3 1 0+1", "cell 4 1 0+2", "cell 5 1 1+2",
            "cell 6 2 3+4+5"]


class NotesTest(unittest.TestCase):
    def assert_refused(self, at, ask, handed):
        """BadRow with this place, and what was handed in stays."""
        kept = list(handed) if isinstance(handed, list) else handed
        with self.assertRaises(BadRow) as caught:
            ask(handed)
        self.assertIs(caught.exception.__class__, BadRow)
        self.assertEqual(caught.exception.at, at, handed)
        self.assertEqual(handed, kept)

    def assert_again(self, field):
        """Written and read it is the same field, and written again the same rows."""
        before = told_field(field)
        with soon():
            rows = written(field)
            again = read_field(rows)
        self.assertEqual(told_field(field), before)
        self.assertIs(again.__class__, Field)
        self.assertEqual(told_field(again), before)
        self.assertEqual(written(again), rows)
        return rows


class SumsTest(NotesTest):
    def test_shown(self):
        for row, line in (([], "-"), ([0], "0"), ([7], "7"), ([0, 1], "0+1"), ([2, 10, 300], "2+10+300"),
                          ([999999999], "999999999"), ([0, 999999998, 999999999], "0+999999998+999999999")):
            self.assertEqual(shown_sum(row), line)
            self.assertEqual(read_sum(line), row)

    def test_a_long_one(self):
        row = list(range(0, 360, 3))
        self.assertEqual(read_sum(shown_sum(row)), row)

    def test_what_is_no_sum_is_not_shown(self):
        for row in ([1, 0], [0, 0], [1, 2, 2]):
            self.assertRaises(NotASum, shown_sum, row)

    def test_lists_stay_and_are_the_askers_own(self):
        row = [1, 2]
        self.assertEqual(shown_sum(row), "1+2")
        self.assertEqual(row, [1, 2])
        for line in ("-", "1+2"):
            told = read_sum(line)
            told.append(9)
            self.assertEqual(read_sum(line), told[:-1])

    def test_signs(self):
        for line in ("-1", "+1", "1+-2", "-1+2", "--", "--1", "1-2", "0-", "-0", "-+", "-+1", "1+-", "+-"):
            self.assert_refused(0, read_sum, line)

    def test_blanks(self):
        for line in (" ", " 1", "1 ", "1 +2", "1+ 2", " -", "- ", "1 2", "1+2 ", "  "):
            self.assert_refused(0, read_sum, line)

    def test_a_nought_ahead(self):
        for line in ("00", "01", "007", "0+01", "1+02", "00+1", "000000000", "0+00"):
            self.assert_refused(0, read_sum, line)

    def test_plus_at_an_end_or_twice(self):
        for line in ("+", "1+", "+1", "1++2", "++", "+1+2", "1+2+", "0+"):
            self.assert_refused(0, read_sum, line)

    def test_figures(self):
        for line in ("1000000000", "9999999999", "0+1000000000", "1" * 5000, "1000000000000", "0000000001"):
            self.assert_refused(0, read_sum, line)
        for line in ("100000000", "123456789", "0+999999999"):
            self.assertEqual(shown_sum(read_sum(line)), line)

    def test_empty(self):
        self.assert_refused(0, read_sum, "")

    def test_numbers_that_do_not_rise(self):
        for line in ("1+0", "1+1", "0+0", "0+2+1", "0+1+1", "10+9", "2+10+3", "999999999+0"):
            self.assert_refused(0, read_sum, line)

    def test_rising_as_numbers_and_not_as_texts(self):
        self.assertEqual(read_sum("2+10+100"), [2, 10, 100])
        self.assertEqual(read_sum("9+10"), [9, 10])

    def test_other_signs(self):
        for line in ("a", "1+a", "1,2", "[1]", "1.0", "1e3", "0x1", "1_0", "1\n", "\n1", "\t1", "1+2\n", "one", "1*2",
                     "~", "nothing", "\u0661", "\u00b2", "1+\u0662", "\uff11"):
            self.assert_refused(0, read_sum, line)

    def test_by_trying_all_short_texts(self):
        sums = {shown_sum(row): row for row in [[]] + [[one] for one in range(1000)] + [
            [one, other] for other in range(100) for one in range(other)]}
        for length in range(4):
            for number in range(4 ** length):
                line = "".join("-+01"[number // 4 ** place % 4] for place in range(length))
                if line in sums:
                    self.assertEqual(read_sum(line), sums[line])
                else:
                    self.assert_refused(0, read_sum, line)


class WrittenTest(NotesTest):
    def test_triangle(self):
        self.assertEqual(self.assert_again(triangle(Field)), TRIANGLE)

    def test_arrows(self):
        field = triangle(Field)
        for low, high in ((4, 6), (1, 5), (0, 3)):
            field.tie(low, high)
        self.assertEqual(self.assert_again(field), TRIANGLE + ["arrow 0 3", "arrow 1 5", "arrow 4 6"])

    def test_gaps(self):
        field = triangle(Field)
        field.take(6)
        field.take(3)
        field.take(field.put(0, []))
        field.tie(0, 4)
        self.assertEqual(self.assert_again(field), [
            "next 8", "cell 0 0 -", "cell 1 0 -", "cell 2 0 -", "cell 4 1 0+2", "cell 5 1 1+2", "arrow 0 4"])

    def test_without_cells(self):
        field = Field()
        self.assertEqual(self.assert_again(field), ["next 0"])
        field.take(field.put(0, []))
        self.assertEqual(self.assert_again(field), ["next 1"])

    def test_a_gap_ahead_and_a_gap_behind(self):
        field = points(3, Field)
        field.take(0)
        field.take(2)
        self.assertEqual(self.assert_again(field), ["next 3", "cell 1 0 -"])

    def test_ranks_and_borders_of_nothing(self):
        field = Field()
        for rank in range(13):
            field.put(rank, [])
        rows = self.assert_again(field)
        self.assertEqual(rows[1], "cell 0 0 -")
        self.assertEqual(rows[11:], ["cell 10 10 -", "cell 11 11 -", "cell 12 12 -"])

    def test_many_fields(self):
        for field in many_fields():
            self.assert_again(field)

    def test_great_fields(self):
        for field in (points(120, Field), fan(59), tied_row(60), settled(grid(5, 6)), settled(full_field(6)),
                      closed_row(60)):
            self.assert_again(field)

    def test_told_rows_are_the_askers_own(self):
        field = tied_triangle()
        before = told_field(field)
        rows = written(field)
        rows.append("arrow 4 6")
        rows[0] = "next 99"
        self.assertEqual(told_field(field), before)
        self.assertEqual(written(field), TRIANGLE + ["arrow 0 3", "arrow 1 5"])

    def test_asked_again(self):
        field = triangle(Field)
        self.assertEqual(written(field), TRIANGLE)
        field.tie(0, 3)
        self.assertEqual(written(field), TRIANGLE + ["arrow 0 3"])
        field.untie(0)
        field.take(6)
        self.assertEqual(written(field), TRIANGLE[:-1])


class ReadTest(NotesTest):
    def test_rows_stay_and_are_not_kept(self):
        rows = TRIANGLE + ["arrow 0 3"]
        field = read_field(rows)
        self.assertEqual(rows, TRIANGLE + ["arrow 0 3"])
        before = told_field(field)
        rows.clear()
        self.assertEqual(told_field(field), before)

    def test_fields_are_the_askers_own(self):
        rows = written(tied_triangle())
        field = read_field(rows)
        field.untie(0)
        field.take(6)
        self.assertEqual(told_field(read_field(rows)), told_field(tied_triangle()))

    def test_what_is_done_behind_it(self):
        field = read_field(written(with_gaps(tied_triangle())))
        other = with_gaps(tied_triangle())
        for one in (field, other):
            self.assertEqual(one.put(0, []), one.coming() - 1)
            settle(one)
        self.assertEqual(told_field(field), told_field(other))
        self.assertEqual(told_field(rebuilt(field)), told_field(field))

    def test_a_next_number_far_above(self):
        for number in (8, 1000, 123456789, 999999999):
            with soon():
                field = self.read_with_next(number)
                self.assertEqual(field.put(0, []), number)
            self.assertEqual(field.cells(), [0, 1, 2, 3, 4, 5, 6, number])
            self.assertEqual(field.coming(), number + 1)

    def read_with_next(self, number):
        """The triangle with another next number, with its rows checked."""
        rows = [f"next {number}"] + TRIANGLE[1:]
        field = read_field(rows)
        self.assertEqual((field.coming(), written(field)), (number, rows))
        self.assertEqual(told_field(field)[0][:4], told_field(triangle(Field))[0][:4])
        return field

    def test_numbers_far_apart(self):
        rows = ["next 999999999", "cell 5 0 -", "cell 70000000 0 -", "cell 900000000 1 5+70000000",
                "cell 999999998 1 5+70000000", "arrow 5 900000000"]
        with soon():
            field = read_field(rows)
            self.assertEqual(written(field), rows)
            self.assertEqual(field.lone(), [70000000, 999999998])
            self.assertEqual(down(field, [5]), [70000000])
            self.assertEqual(slim_body(field)[1], [70000000, 999999998])
            self.assertEqual(slim_filling(field, [5, 70000000]), [900000000])
            self.assertEqual(bar(field, [5]), [5, 70000000])
            self.assertIn(filling(field, [5, 70000000]), ([900000000], [999999998]))

    def test_next_alone(self):
        for number in (0, 5, 999999999):
            field = read_field([f"next {number}"])
            self.assertEqual((field.cells(), field.coming()), ([], number))

    def test_any_other_list_is_read(self):
        rows = ["next 9", "cell 2 3 -", "cell 4 4 2", "cell 7 0 -", "cell 8 12 -", "arrow 2 4"]
        field = read_field(rows)
        self.assertEqual(written(field), rows)
        self.assertEqual((field.arrows(), field.lone()), ([(2, 4)], [7, 8]))

    def test_120_cells(self):
        rows = ["next 500"] + [f"cell {4 * number} 0 -" for number in range(120)]
        self.assertEqual(written(read_field(rows)), rows)
        self.assert_refused(121, read_field, rows + ["cell 490 0 -"])
        self.assert_refused(121, read_field, rows + ["cell 490 0 -", "cell 491 0 -"])
        self.assert_refused(121, read_field, rows + ["cell 490 1 0+4"])

    def test_120_cells_and_arrows(self):
        field = tied_row(60)
        field.put(0, [])
        rows = self.assert_again(field)
        self.assertEqual(len(rows), 1 + 120 + 58)
        self.assert_refused(121, read_field, [f"next {10 ** 6}"] + rows[1:121] + ["cell 121 0 -"] + rows[121:])


class FaultsTest(NotesTest):
    def assert_fault(self, place, *rows):
        """The list is refused with this place, also where more rows are behind it."""
        self.assert_refused(place, read_field, list(rows))
        self.assert_refused(place, read_field, list(rows) + ["cell 8 0 -"])
        self.assert_refused(place, read_field, list(rows) + ["and so on", ""])

    def assert_bad_row(self, row, ahead=TRIANGLE):
        """The row is at fault behind these."""
        self.assert_fault(len(ahead), *ahead, row)

    def test_empty_list(self):
        self.assert_refused(0, read_field, [])

    def test_the_first_row(self):
        for row in ("", "next", "next ", "next -", "next -1", "next +1", "next 01", "next 00", "next 1 2", " next 1",
                    "next  1", "next 1 ", "Next 1", "next one", "next 1000000000", "next\t1", "next1", "cell 0 0 -",
                    "arrow 0 1", "1", "next 1+2", "next 0x1", "NEXT 1", "next 1.", "next\n1", "next 1\n"):
            self.assert_fault(0, row)
            self.assert_fault(0, row, "cell 0 0 -")

    def test_next_again(self):
        for row in ("next 7", "next 0", "next 8", "next 999999999"):
            self.assert_bad_row(row)
            self.assert_bad_row(row, TRIANGLE[:1])
            self.assert_bad_row(row, TRIANGLE[:4])
            self.assert_bad_row(row, TRIANGLE + ["arrow 0 3"])

    def test_rows_of_no_form(self):
        for row in ("", " ", "cell", "arrow", "cell 3", "cell 3 0", "cell 3 0 ", "cell 3 0 - ", " cell 3 0 -",
                    "cell  3 0 -", "cell 3  0 -", "cell 3 0  -", "cell 3 0 - -", "cell 3 0 0 1", "Cell 3 0 -",
                    "cell -3 0 -", "cell 03 0 -", "cell 3 00 -", "cell 3 01 0+1", "cell 3 -1 -", "cell 3 + -",
                    "cell 3 0 +", "cell 3 1 0+", "cell 3 1 +0", "cell 3 1 0++1", "cell 3 1 00", "cell 3 1 1+0",
                    "cell 3 1 0+0", "cell 3 1 [0]", "cell 3 1 0,1", "cell a 0 -", "cell 3 a -", "cell 3 0 a",
                    "cell 3 0 --", "cell 3 1 0 +1", "cells 3 0 -", "put 3 0 -", "cell\t3 0 -", "cell 3 0 -\n",
                    "arrow 0", "arrow 0 3 ", " arrow 0 3", "arrow  0 3", "arrow 0  3", "arrow 0 3 4", "arrow 00 3",
                    "arrow 0 03", "arrow -0 3", "arrow 0+3", "arrow 0 3+4", "arrow - 3", "arrow a 3", "Arrow 0 3",
                    "tie 0 3", "arrow 0\t3", "arrow 0 3\n", "# no row"):
            self.assert_bad_row(row, ["next 7", "cell 0 0 -", "cell 1 0 -"])
            self.assert_bad_row(row, ["next 7"])

    def test_arrow_rows_of_no_form_behind_cells(self):
        for row in ("arrow 0 3 ", "arrow 0  3", "arrow 00 3", "arrow 0 03", "arrow 0", "arrow", "arrow 0 3 5",
                    "tie 0 3", "Arrow 0 3", "arrows 0 3", " 0 3", "next 0 3"):
            self.assert_bad_row(row)
            self.assert_bad_row(row.replace("0", "2").replace("3", "5"), TRIANGLE + ["arrow 0 3"])

    def test_more_than_nine_figures(self):
        for row in ("cell 1000000000 0 -", "cell 3 1000000000 -", "cell 3 1 0+1000000000"):
            self.assert_bad_row(row, ["next 999999999", "cell 0 0 -", "cell 1 0 -"])
        self.assert_bad_row("arrow 0 1000000000")
        self.assert_bad_row("arrow 1000000000 3")

    def test_a_cell_behind_an_arrow(self):
        rows = ["next 9"] + TRIANGLE[1:] + ["arrow 0 3"]
        for row in ("cell 7 0 -", "cell 8 0 -", "cell 7 1 0+1"):
            self.assert_bad_row(row, rows)
            self.assert_bad_row(row, rows + ["arrow 1 5"])
        self.assertEqual(written(read_field(rows + ["arrow 1 5"])), rows + ["arrow 1 5"])

    def test_a_number_that_is_not_above_the_one_ahead(self):
        for number in (0, 1, 2, 3, 4):
            self.assert_bad_row(f"cell {number} 0 -", ["next 9", "cell 2 0 -", "cell 4 0 -"])
        self.assert_bad_row("cell 0 0 -", ["next 9", "cell 0 0 -"])
        self.assertEqual(read_field(["next 9", "cell 2 0 -", "cell 4 0 -", "cell 5 0 -"]).cells(), [2, 4, 5])

    def test_a_number_that_is_not_below_the_next(self):
        self.assert_bad_row("cell 0 0 -", ["next 0"])
        for number in (5, 6, 100, 999999999):
            self.assert_bad_row(f"cell {number} 0 -", ["next 5", "cell 0 0 -"])
        self.assertEqual(read_field(["next 5", "cell 4 0 -"]).coming(), 5)

    def test_cells_that_would_be_refused(self):
        rows = ["next 20"] + TRIANGLE[1:]
        for row in ("cell 7 13 -", "cell 7 999999999 -", "cell 7 0 0", "cell 7 1 3", "cell 7 1 0+3", "cell 7 2 0",
                    "cell 7 1 7", "cell 7 1 0+8", "cell 7 1 19", "cell 7 2 3", "cell 7 2 3+4", "cell 7 3 6",
                    "cell 7 1 1+0", "cell 7 1 0+0", "cell 7 12 6"):
            self.assert_bad_row(row, rows)
        for row in ("cell 7 12 -", "cell 7 1 0", "cell 7 1 0+1+2", "cell 7 2 3+4+5", "cell 7 0 -", "cell 7 3 -"):
            self.assertEqual(written(read_field(rows + [row]))[-1], row)

    def test_a_border_with_a_missing_number(self):
        self.assert_bad_row("cell 4 1 0+1", ["next 9", "cell 0 0 -", "cell 2 0 -"])
        self.assert_bad_row("cell 4 1 0+5", ["next 9", "cell 0 0 -", "cell 2 0 -"])

    def test_a_border_that_comes_later(self):
        self.assert_fault(1, "next 7", "cell 0 1 1", "cell 1 0 -")

    def test_arrows_that_do_not_rise(self):
        rows = TRIANGLE + ["arrow 1 3"]
        for row in ("arrow 0 4", "arrow 1 5", "arrow 1 3"):
            self.assert_bad_row(row, rows)
        self.assertEqual(read_field(rows + ["arrow 2 5"]).arrows(), [(1, 3), (2, 5)])
        self.assert_fault(9, *TRIANGLE, "arrow 4 6", "arrow 0 3")
        self.assert_fault(10, *TRIANGLE, "arrow 1 3", "arrow 4 6", "arrow 2 5")

    def test_arrows_that_would_be_refused(self):
        for row in ("arrow 0 7", "arrow 7 0", "arrow 7 8", "arrow 0 5", "arrow 3 0", "arrow 0 6", "arrow 0 0",
                    "arrow 6 6", "arrow 999999999 6"):
            self.assert_bad_row(row)
        for row in ("arrow 1 3", "arrow 3 6"):
            self.assert_bad_row(row, TRIANGLE + ["arrow 0 3"])
        self.assert_bad_row("arrow 2 4", TRIANGLE + ["arrow 0 3", "arrow 1 5"])
        self.assert_bad_row("arrow 0 3", ["next 3", "cell 0 0 -"])
        self.assert_bad_row("arrow 0 3", ["next 3"])

    def test_the_first_fault_counts(self):
        self.assert_fault(2, "next 9", "cell 0 0 -", "cell 0 0 -", "cell 1 99 -", "next 3")
        self.assert_fault(3, "next 9", "cell 0 0 -", "cell 1 0 -", "arrow 0 1", "arrow 0 1")
        self.assert_fault(0, "nest 9", "cell 0 99 -")
        self.assert_fault(8, *TRIANGLE, "arrow 0 6", "arrow 0 3")

    def test_rings_of_any_length(self):
        for count in (2, 3, 10, 60):
            field = closed_row(count)
            rows = written(field) + [f"arrow {point} {count + point}" for point in range(count)]
            self.assert_refused(len(rows) - 1, read_field, rows)
            self.assertEqual(written(read_field(rows[:-1])), rows[:-1])


if __name__ == "__main__":
    unittest.main()
