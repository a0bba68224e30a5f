"""Point 1 and the interface's errors.py."""

import unittest

from slimbody import errors

NAMES = [
    "NotASum", "NoCell", "BadRank", "OtherRank", "OpenBorder", "Full", "Covered", "NotFace",
    "Tied", "NotTied", "RingOfArrows", "NotLone", "ManyRoads", "Ground", "NothingBack", "BadRow",
]


class ErrorsTest(unittest.TestCase):
    def test_body_error_is_straight_under_value_error(self):
        self.assertEqual(errors.BodyError.__bases__, (ValueError,))

    def test_each_is_straight_under_body_error(self):
        for name in NAMES:
            with self.subTest(name):
                self.assertEqual(getattr(errors, name).__bases__, (errors.BodyError,))

    def test_there_are_no_others(self):
        found = [name for name, value in vars(errors).items() if isinstance(value, type)]
        self.assertEqual(sorted(found), sorted(NAMES + ["BodyError"]))

    def test_each_is_caught_by_both(self):
        for name in NAMES:
            for catcher in (errors.BodyError, ValueError, getattr(errors, name)):
                with self.subTest(name, catcher=catcher), self.assertRaises(catcher):
                    raise getattr(errors, name)()

    def test_none_is_one_of_the_others(self):
        for name in NAMES:
            for other in NAMES:
                with self.subTest(name, other=other):
                    is_one = issubclass(getattr(errors, name), getattr(errors, other))
                    self.assertEqual(is_one, name == other)

    def test_body_error_is_none_of_them(self):
        for name in NAMES:
            self.assertFalse(issubclass(errors.BodyError, getattr(errors, name)))


class ValuesTest(unittest.TestCase):
    def test_ring(self):
        with self.assertRaises(errors.RingOfArrows) as caught:
            raise errors.RingOfArrows([4, 2, 7])
        self.assertEqual(caught.exception.ring, [4, 2, 7])
        self.assertIsInstance(caught.exception.ring, list)

    def test_ring_is_not_the_list_handed_in(self):
        row = [4, 2, 7]
        refusal = errors.RingOfArrows(row)
        row.append(9)
        self.assertEqual(refusal.ring, [4, 2, 7])
        refusal.ring.clear()
        self.assertEqual(row, [4, 2, 7, 9])
        self.assertEqual(errors.RingOfArrows([1, 2]).ring, [1, 2])

    def test_many(self):
        for many in (0, 2, 10 ** 60, 10 ** 5000):
            refusal = errors.ManyRoads(many)
            self.assertEqual(refusal.many, many)
            self.assertIsInstance(str(refusal), str)

    def test_at(self):
        for at in (0, 1, 119):
            self.assertEqual(errors.BadRow(at).at, at)

    def test_values_are_set_when_nothing_is_told(self):
        self.assertEqual(errors.RingOfArrows().ring, [])
        self.assertEqual(errors.ManyRoads().many, 0)
        self.assertEqual(errors.BadRow().at, 0)

    def test_values_of_two_refusals_are_apart(self):
        one = errors.RingOfArrows()
        one.ring.append(3)
        self.assertEqual(errors.RingOfArrows().ring, [])


if __name__ == "__main__":
    unittest.main()
