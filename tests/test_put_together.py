"""Points 2 and 25: fields laid apart, and products of fields."""

import contextlib
import random
import unittest

from bodies import points, told, triangle
from fields import (closed_row, full_field, grid, many_fields, row_of_points, settled, some_branches, soon, tied_row,
                    tied_triangle, told_field, told_slim, with_gaps)
from slimbody.carry import down, slim_border, up
from slimbody.errors import BadRank, BodyError, Full
from slimbody.field import Field, field_on
from slimbody.shapes import apart, full_body, product, round_body


def rows_of(field):
    """The rank and border of each cell, by its place."""
    cells = field.cells()
    return [(field.rank(cell), [cells.index(face) for face in field.border(cell)]) for cell in cells]


def arrows_of(field):
    """The arrows, by the places of their cells."""
    cells = field.cells()
    return [(cells.index(low), cells.index(high)) for low, high in field.arrows()]


def single(rank):
    """A field with one cell."""
    field = Field()
    field.put(rank, [])
    return field


def small_fields():
    """Fields of at most ten cells, with gaps and arrows."""
    return [field for field in many_fields() if len(field.cells()) <= 10] + [
        triangle(Field), tied_triangle(), with_gaps(tied_triangle()), tied_row(4), settled(closed_row(3)),
        settled(with_gaps(row_of_points(5))), single(3), closed_row(1)]


class TogetherTest(unittest.TestCase):
    def assert_refused(self, refusal, ask, one, other):
        before = told_field(one), told_field(other)
        with self.assertRaises(refusal) as caught:
            ask(one, other)
        self.assertIs(caught.exception.__class__, refusal)
        self.assertEqual((told_field(one), told_field(other)), before)

    def assert_stay(self, ask, one, other):
        """What is told, with both fields as they were, also when it is changed."""
        before = told_field(one), told_field(other)
        with soon():
            answer = ask(one, other)
        self.assertEqual((told_field(one), told_field(other)), before)
        return answer


class ApartTest(TogetherTest):
    def assert_apart(self, one, other):
        """The cells of the first one, then those of the other, with borders and arrows."""
        field = self.assert_stay(apart, one, other)
        count = len(one.cells())
        self.assertIs(field.__class__, Field)
        self.assertEqual(field.cells(), list(range(count + len(other.cells()))))
        self.assertEqual(field.coming(), len(field.cells()))
        later = [(rank, [count + face for face in border]) for rank, border in rows_of(other)]
        self.assertEqual(rows_of(field), rows_of(one) + later)
        arrows = arrows_of(one) + [(count + low, count + high) for low, high in arrows_of(other)]
        self.assertEqual(field.arrows(), arrows)
        self.assertEqual(sorted(field.order()), field.tails())
        return field

    def test_two(self):
        field = self.assert_apart(tied_triangle(), tied_row(3))
        self.assertEqual(field.border(11), [8, 9])
        self.assertEqual(field.arrows(), [(0, 3), (1, 5), (8, 11)])
        self.assertEqual(field.coming(), 12)

    def test_the_other_way(self):
        field = self.assert_apart(tied_row(3), tied_triangle())
        self.assertEqual(field.arrows(), [(1, 4), (5, 8), (6, 10)])

    def test_one_with_itself(self):
        field = tied_triangle()
        twice = self.assert_apart(field, field)
        self.assertEqual(twice.arrows(), [(0, 3), (1, 5), (7, 10), (8, 12)])
        self.assertEqual(twice.border(13), [10, 11, 12])

    def test_nothing(self):
        self.assertEqual(told_field(self.assert_apart(Field(), Field())), told_field(Field()))
        self.assertEqual(told_field(self.assert_apart(tied_triangle(), Field())), told_field(tied_triangle()))
        self.assertEqual(told_field(self.assert_apart(Field(), tied_triangle())), told_field(tied_triangle()))

    def test_gaps(self):
        gone = Field()
        gone.take(gone.put(0, []))
        for one, other in ((with_gaps(tied_triangle()), tied_row(3)), (tied_row(3), with_gaps(tied_triangle())),
                           (with_gaps(tied_row(4)), with_gaps(tied_triangle())), (gone, with_gaps(tied_row(3)))):
            self.assert_apart(one, other)

    def test_many_fields(self):
        fields = many_fields()
        for one, other in zip(fields, fields[7:] + fields[:7]):
            if len(one.cells()) + len(other.cells()) <= 120:
                self.assert_apart(one, other)

    def test_the_slim_body(self):
        one, other = with_gaps(tied_triangle()), settled(full_field(3))
        body, names = told_slim(apart(one, other))
        self.assertEqual(names, [2, 9, 4, 6])
        self.assertEqual(body[3], [2, 1, 1])

    def test_full(self):
        for count in (60, 61, 119, 120):
            self.assert_refused(Full, apart, points(count, Field), points(121 - count, Field))
            self.assert_refused(Full, apart, points(120, Field), points(count, Field))
        sixty_one = points(61, Field)
        self.assert_refused(Full, apart, sixty_one, sixty_one)

    def test_120_cells(self):
        field = self.assert_apart(points(113, Field), tied_triangle())
        self.assertEqual(field.coming(), 120)
        sixty = tied_row(30)
        sixty.put(0, [])
        self.assert_apart(sixty, sixty)
        self.assert_apart(points(120, Field), Field())
        self.assertEqual(len(self.assert_apart(Field(), field).cells()), 120)

    def test_taken_away_cells_do_not_count(self):
        one = points(100, Field)
        for cell in range(0, 100, 2):
            one.take(cell)
        self.assertEqual(self.assert_apart(one, points(70, Field)).coming(), 120)

    def test_what_is_told_goes_its_own_way(self):
        one, other = tied_triangle(), tied_row(3)
        before = told_field(one), told_field(other)
        field = apart(one, other)
        shown = told_field(field)
        field.untie(0)
        field.take(6)
        field.put(0, [])
        self.assertEqual((told_field(one), told_field(other)), before)
        self.assertEqual(told_field(apart(one, other)), shown)
        one.untie(0)
        self.assertEqual(told_field(field)[1], [(1, 5), (8, 11)])


class ProductTest(TogetherTest):
    def assert_product(self, one, other):
        """The pairs, ranks, borders and arrows go with the words of point 25."""
        answer = self.assert_stay(product, one, other)
        self.assertIs(answer.__class__, tuple)
        field, pairs = answer
        self.assertIs(field.__class__, Field)
        self.assertIs(pairs.__class__, list)
        self.assertEqual(pairs, sorted((a, b) for a in one.cells() for b in other.cells()))
        self.assertEqual(field.cells(), list(range(len(pairs))))
        self.assertEqual(field.coming(), len(pairs))
        for number, (a, b) in enumerate(pairs):
            self.assertEqual(field.rank(number), one.rank(a) + other.rank(b))
            border = [(face, b) for face in one.border(a)] + [(a, face) for face in other.border(b)]
            self.assertEqual([pairs[face] for face in field.border(number)], sorted(border))
        arrows = [((a, b), (one.head_of(a), b)) for a, b in pairs if a in one.tails()]
        arrows += [((a, b), (a, other.head_of(b))) for a, b in pairs if a in one.lone() and b in other.tails()]
        self.assertEqual([(pairs[low], pairs[high]) for low, high in field.arrows()], sorted(arrows))
        self.assertEqual(sorted(field.order()), field.tails())
        return field, pairs

    def assert_carried(self, one, other):
        """The last sentence of point 25, for pairs of lone cells."""
        field, pairs = product(one, other)
        lone = [(a, b) for a in one.lone() for b in other.lone()]
        self.assertEqual([pairs[cell] for cell in field.lone()], lone)
        for a, b in lone:
            number = pairs.index((a, b))
            border = [(face, b) for face in slim_border(one, [a])] + [(a, face) for face in slim_border(other, [b])]
            self.assertEqual([pairs[cell] for cell in slim_border(field, [number])], sorted(border))
            carried = [(left, right) for left in up(one, [a]) for right in up(other, [b])]
            self.assertEqual([pairs[cell] for cell in up(field, [number])], sorted(carried))

    def test_two_stretches(self):
        stretch = row_of_points(2)
        field, pairs = self.assert_product(stretch, stretch)
        self.assertEqual(pairs, [(0, 0), (0, 1), (0, 2), (1, 0), (1, 1), (1, 2), (2, 0), (2, 1), (2, 2)])
        self.assertEqual([field.rank(cell) for cell in field.cells()], [0, 0, 1, 0, 0, 1, 1, 1, 2])
        self.assertEqual(field.border(8), [2, 5, 6, 7])
        self.assertEqual(field.border(2), [0, 1])
        self.assertEqual(field.border(6), [0, 3])

    def test_arrows(self):
        one, other = row_of_points(2), row_of_points(2)
        one.tie(0, 2)
        other.tie(1, 2)
        field, pairs = self.assert_product(one, other)
        # One's tail 0 with each cell of the other; one's lone cell 1 with the other's tail.
        self.assertEqual(field.arrows(), [(0, 6), (1, 7), (2, 8), (4, 5)])
        self.assertEqual([pairs[cell] for cell in field.lone()], [(1, 0)])

    def test_one_with_itself(self):
        for field in (tied_triangle(), with_gaps(tied_triangle()), tied_row(4), settled(closed_row(4))):
            self.assert_product(field, field)
            self.assert_carried(field, field)

    def test_nothing(self):
        for one, other in ((Field(), Field()), (Field(), tied_triangle()), (tied_triangle(), Field())):
            field, pairs = self.assert_product(one, other)
            self.assertEqual((told_field(field), pairs), (told_field(Field()), []))

    def test_with_one_point(self):
        for field in small_fields() + [points(120, Field), settled(grid(5, 6))]:
            for one, other in ((field, single(0)), (single(0), field)):
                told_product, pairs = self.assert_product(one, other)
                self.assertEqual(rows_of(told_product), rows_of(field))
                self.assertEqual(arrows_of(told_product), arrows_of(field))

    def test_gaps(self):
        field, pairs = self.assert_product(with_gaps(tied_row(3)), with_gaps(tied_triangle()))
        self.assertEqual(field.coming(), 35)
        self.assertEqual(pairs[0], (with_gaps(tied_row(3)).cells()[0], with_gaps(tied_triangle()).cells()[0]))

    def test_many_fields(self):
        fields = small_fields()
        for one in fields:
            for other in fields[::3]:
                self.assert_product(one, other)
                self.assert_carried(one, other)

    def test_branches(self):
        one, other = some_branches(3), tied_row(3)
        self.assertLessEqual(len(one.cells()) * len(other.cells()), 120)
        self.assert_product(one, other)
        self.assert_carried(one, other)
        self.assert_carried(other, one)

    def test_random_arrows(self):
        chance = random.Random(11)
        for _ in range(30):
            fields = []
            for shape in (row_of_points(5), triangle(Field)):
                for low in chance.sample(shape.cells(), len(shape.cells())):
                    for high in shape.over(low):
                        if chance.randrange(2):
                            with contextlib.suppress(BodyError):
                                shape.tie(low, high)
                fields.append(shape)
            self.assert_product(*fields)
            self.assert_carried(*fields)

    def test_shapes(self):
        ring = field_on(round_body(4))
        field, _ = self.assert_product(ring, ring)
        self.assertEqual(field.counts(), [16, 32, 16])
        field, _ = self.assert_product(field_on(full_body(3)), field_on(full_body(4)))
        self.assertEqual(len(field.cells()), 105)

    def test_full(self):
        eleven = points(11, Field)
        self.assert_refused(Full, product, eleven, eleven)
        self.assert_refused(Full, product, points(120, Field), points(2, Field))
        self.assert_refused(Full, product, points(2, Field), points(61, Field))
        self.assert_refused(Full, product, points(120, Field), points(120, Field))

    def test_120_cells(self):
        for one, other in ((points(10, Field), points(12, Field)), (points(120, Field), single(2)),
                           (tied_row(3), points(24, Field)), (tied_row(6).twin(), points(10, Field))):
            field, pairs = self.assert_product(one, other)
            self.assertLessEqual(len(pairs), 120)
        self.assertEqual(self.assert_product(tied_row(3), points(24, Field))[0].coming(), 120)

    def test_bad_rank(self):
        self.assert_product(single(6), single(6))
        self.assert_product(single(12), single(0))
        for low, high in ((6, 7), (12, 1), (12, 12), (1, 12)):
            self.assert_refused(BadRank, product, single(low), single(high))

    def test_bad_rank_of_one_pair_alone(self):
        one, other = points(5, Field), points(4, Field)
        one.put(6, [])
        other.put(7, [])
        self.assert_refused(BadRank, product, one, other)
        self.assert_refused(BadRank, product, other, one)

    def test_full_first(self):
        one, other = points(11, Field), points(10, Field)
        other.put(12, [])
        one.put(12, [])
        self.assert_refused(Full, product, one, other)
        one.take(0)
        self.assert_refused(Full, product, one, other)
        one.take(1)
        self.assert_refused(BadRank, product, one, other)

    def test_apart_does_not_refuse_ranks(self):
        self.assertEqual(apart(single(12), single(12)).counts(), [0] * 12 + [2])

    def test_what_is_told_goes_its_own_way(self):
        one, other = tied_row(3), tied_triangle()
        before = told_field(one), told_field(other)
        field, pairs = product(one, other)
        shown, kept = told_field(field), list(pairs)
        field.untie(field.tails()[0])
        field.put(0, [])
        pairs.reverse()
        pairs.append((9, 9))
        self.assertEqual((told_field(one), told_field(other)), before)
        again, told_pairs = product(one, other)
        self.assertEqual((told_field(again), told_pairs), (shown, kept))
        one.untie(1)
        other.take(6)
        self.assertEqual(told_field(again), shown)

    def test_carriers_of_the_product(self):
        field, _ = product(tied_row(3), tied_triangle())
        for row in ([0], field.cells(), field.cells()[::3]):
            self.assertEqual(down(field, field.border_of(row)), slim_border(field, down(field, row)))

    def test_asked_again(self):
        one, other = row_of_points(2), row_of_points(2)
        self.assertEqual(product(one, other)[0].arrows(), [])
        one.tie(0, 2)
        self.assertEqual(product(one, other)[0].arrows(), [(0, 6), (1, 7), (2, 8)])
        one.untie(0)
        other.tie(0, 2)
        self.assertEqual(product(one, other)[0].arrows(), [(0, 2), (3, 5), (6, 8)])
        self.assertEqual(told(product(one, one)[0]), told(product(row_of_points(2), row_of_points(2))[0]))


if __name__ == "__main__":
    unittest.main()
