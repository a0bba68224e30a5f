"""Points 2, 4, 5, 6 and 7 for fields: what holds for bodies holds for fields without arrows, and with them."""

import unittest

import test_put
import test_questions
import test_take
from bodies import GREAT, points, told, triangle
from fields import many_fields, told_field
from slimbody.body import Body
from slimbody.errors import BadRank, Full, NoCell, NotASum, OpenBorder, OtherRank
from slimbody.field import Field, field_on


class FieldNumbersTest(test_put.NumbersTest):
    kind = Field


class FieldPutRanksTest(test_put.RanksTest):
    kind = Field


class FieldPutRefusalsTest(test_put.RefusalsTest):
    kind = Field


class FieldOrderOfRefusalsTest(test_put.OrderOfRefusalsTest):
    kind = Field


class FieldListsTest(test_put.ListsTest):
    kind = Field


class FieldTakeTest(test_take.TakeTest):
    kind = Field


class FieldEmptyTest(test_questions.EmptyTest):
    kind = Field


class FieldCellsTest(test_questions.CellsTest):
    kind = Field


class FieldBorderOfTest(test_questions.BorderOfTest):
    kind = Field


class FieldRanksTest(test_questions.RanksTest):
    kind = Field


class FieldTwinTest(test_questions.TwinTest):
    kind = Field


class FieldMethodsTest(test_questions.MethodsTest):
    kind = Field

    def test_those_of_fields_alone(self):
        for name in ("tie", "untie", "head_of", "tail_of", "tails", "heads", "lone", "arrows", "order"):
            self.assertIn(name, vars(Field))


class KindTest(unittest.TestCase):
    def test_a_field_is_a_body(self):
        self.assertIsInstance(Field(), Body)
        self.assertEqual(Field.__bases__, (Body,))


class PutWithArrowsTest(unittest.TestCase):
    def nearly_full(self, count):
        """The triangle with two arrows, and points up to that many cells."""
        field = triangle(Field)
        field.tie(0, 3)
        field.tie(4, 6)
        while len(field.cells()) < count:
            field.put(0, [])
        return field

    def test_one_hundred_and_eighteen_and_on(self):
        field = self.nearly_full(118)
        self.assertEqual(field.put(0, []), 118)
        self.assertEqual(field.put(2, [3, 4, 5]), 119)
        before = told_field(field)
        for rank, border in ((0, []), (12, []), (2, [3, 4, 5]), (1, [0, 1])):
            self.assertRaises(Full, field.put, rank, border)
        self.assertEqual(told_field(field), before)
        self.assertEqual(field.coming(), 120)

    def test_room_again(self):
        field = self.nearly_full(120)
        field.take(50)
        self.assertEqual(field.put(1, [0, 60]), 120)
        self.assertRaises(Full, field.put, 0, [])

    def test_refusals(self):
        field = self.nearly_full(120)
        before = told_field(field)
        for refusal, rank, border in ((BadRank, 13, [1, 0]), (BadRank, -1, [GREAT]), (NotASum, 1, [GREAT, 0]),
                                      (NoCell, 2, [0, GREAT]), (OtherRank, 2, [0, 3]), (OpenBorder, 2, [3]),
                                      (Full, 1, [0])):
            self.assertRaises(refusal, field.put, rank, border)
            self.assertEqual(told_field(field), before)

    def test_a_new_cell_is_lone(self):
        field = self.nearly_full(7)
        arrows = field.arrows()
        self.assertEqual(field.put(1, [0, 1]), 7)
        self.assertEqual(field.arrows(), arrows)
        self.assertEqual(field.lone(), [1, 2, 5, 7])


class QuestionsWithArrowsTest(unittest.TestCase):
    def test_arrows_change_nothing_of_the_body(self):
        for field in many_fields():
            before = told(field)
            for low in field.tails():
                field.untie(low)
            self.assertEqual(told(field), before)

    def test_refusals(self):
        for field in many_fields():
            before = told_field(field)
            for ask in (field.rank, field.border, field.over, field.take):
                for cell in (-1, field.coming(), GREAT, -GREAT):
                    self.assertRaises(NoCell, ask, cell)
            self.assertRaises(NotASum, field.border_of, [GREAT, 0])
            self.assertRaises(NoCell, field.border_of, [-1])
            self.assertEqual(told_field(field), before)


class TwinWithArrowsTest(unittest.TestCase):
    def test_the_same(self):
        for field in many_fields():
            twin = field.twin()
            self.assertIs(twin.__class__, Field)
            self.assertIsNot(twin, field)
            self.assertEqual(told_field(twin), told_field(field))

    def test_the_twin_goes_its_own_way(self):
        field = triangle(Field)
        field.tie(0, 3)
        before = told_field(field)
        twin = field.twin()
        twin.tie(1, 5)
        self.assertEqual(twin.untie(0), 3)
        twin.tie(4, 6)
        twin.put(0, [])
        self.assertEqual(told_field(field), before)
        self.assertEqual(twin.arrows(), [(1, 5), (4, 6)])

    def test_the_field_goes_its_own_way(self):
        field = triangle(Field)
        field.tie(0, 3)
        twin = field.twin()
        before = told_field(twin)
        field.untie(0)
        field.take(6)
        field.take(5)
        field.tie(2, 4)
        self.assertEqual(told_field(twin), before)
        self.assertEqual(field.arrows(), [(2, 4)])

    def test_a_twin_of_a_twin(self):
        field = triangle(Field)
        field.tie(0, 3)
        twin = field.twin()
        third = twin.twin()
        twin.untie(0)
        self.assertEqual(third.arrows(), [(0, 3)])


class FieldOnTest(unittest.TestCase):
    def test_of_bodies(self):
        gap = points(9)
        gap.take(8)
        gap.take(3)
        for body in (Body(), triangle(), gap, points(120)):
            before = told(body)
            field = field_on(body)
            self.assertIs(field.__class__, Field)
            self.assertEqual(told(field), before)
            self.assertEqual((field.arrows(), field.lone(), field.order()), ([], body.cells(), []))
            self.assertEqual(told(body), before)

    def test_of_fields(self):
        for field in many_fields():
            before = told_field(field)
            other = field_on(field)
            self.assertIs(other.__class__, Field)
            self.assertIsNot(other, field)
            self.assertEqual(told(other), told(field))
            self.assertEqual((other.arrows(), other.tails(), other.heads(), other.lone()), ([], [], [], field.cells()))
            self.assertEqual(told_field(field), before)

    def test_each_goes_its_own_way(self):
        for body in (triangle(), triangle(Field)):
            field = field_on(body)
            field.tie(0, 3)
            field.take(field.put(0, []))
            field.put(1, [1])
            self.assertEqual(told(body), told(triangle()))
            body.take(6)
            body.put(0, [])
            self.assertEqual(field.cells(), [0, 1, 2, 3, 4, 5, 6, 8])
            self.assertEqual((field.coming(), body.coming()), (9, 8))

    def test_the_fields_arrows_stay(self):
        field = triangle(Field)
        field.tie(0, 3)
        other = field_on(field)
        other.tie(1, 3)
        self.assertEqual((field.arrows(), other.arrows()), ([(0, 3)], [(1, 3)]))


if __name__ == "__main__":
    unittest.main()
