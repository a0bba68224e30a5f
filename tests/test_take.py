"""Points 2, 4, 6 and 7: taking cells away."""

import unittest

from bodies import GREAT, points, told, triangle
from slimbody.body import Body
from slimbody.errors import Covered, Full, NoCell


class TakeTest(unittest.TestCase):
    kind = Body

    def assert_refused(self, refusal, body, cell):
        before = told(body)
        with self.assertRaises(refusal) as caught:
            body.take(cell)
        self.assertIs(caught.exception.__class__, refusal)
        self.assertEqual(told(body), before)

    def test_none_told(self):
        body = triangle(self.kind)
        self.assertIsNone(body.take(6))
        self.assertEqual(body.cells(), [0, 1, 2, 3, 4, 5])
        self.assertIs(body.stands(6), False)

    def test_no_cell(self):
        for cell in (-1, 7, 8, GREAT, -GREAT):
            self.assert_refused(NoCell, triangle(self.kind), cell)
        self.assert_refused(NoCell, self.kind(), 0)

    def test_twice(self):
        body = triangle(self.kind)
        body.take(6)
        self.assert_refused(NoCell, body, 6)

    def test_covered(self):
        for cell in range(6):
            self.assert_refused(Covered, triangle(self.kind), cell)

    def test_covered_by_one_of_two(self):
        body = triangle(self.kind)
        body.take(6)
        body.take(3)
        self.assert_refused(Covered, body, 0)
        body.take(4)
        self.assertIsNone(body.take(0))
        self.assertEqual(body.cells(), [1, 2, 5])

    def test_all_from_the_top(self):
        body = triangle(self.kind)
        for cell in (6, 5, 4, 3, 2, 1, 0):
            body.take(cell)
        self.assertEqual((body.cells(), body.counts(), body.coming()), ([], [], 7))

    def test_the_number_does_not_come_again(self):
        body = points(3, self.kind)
        body.take(2)
        self.assertEqual(body.coming(), 3)
        self.assertEqual(body.put(0, []), 3)
        body.take(0)
        self.assertEqual(body.put(1, [1, 3]), 4)
        self.assertEqual(body.cells(), [1, 3, 4])

    def test_the_number_does_not_come_again_to_an_empty_body(self):
        body = points(1, self.kind)
        body.take(0)
        self.assertEqual(body.put(0, []), 1)
        self.assertIs(body.stands(0), False)

    def test_over_forgets_it(self):
        body = triangle(self.kind)
        body.take(6)
        self.assertEqual([body.over(cell) for cell in (3, 4, 5)], [[], [], []])
        body.take(5)
        self.assertEqual([body.over(cell) for cell in (0, 1, 2)], [[3, 4], [3], [4]])

    def test_room_again(self):
        body = points(120, self.kind)
        self.assertRaises(Full, body.put, 0, [])
        body.take(119)
        body.take(0)
        self.assertEqual(body.put(0, []), 120)
        self.assertEqual(body.put(1, [1, 120]), 121)
        self.assertRaises(Full, body.put, 0, [])
        self.assertEqual(len(body.cells()), 120)
        self.assertEqual(body.coming(), 122)


if __name__ == "__main__":
    unittest.main()
