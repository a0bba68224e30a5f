"""What the tests of fields check in the same way."""

import copy
import unittest

from fields import told_field


class FieldTest(unittest.TestCase):
    def assert_refused(self, refusal, field, ask, *values):
        """It is refused with just this class, and all stays as it was; the refusal."""
        lists = [value for value in values if isinstance(value, list)]
        before, handed = told_field(field), copy.deepcopy(lists)
        with self.assertRaises(refusal) as caught:
            ask(*values)
        self.assertIs(caught.exception.__class__, refusal)
        self.assertEqual(told_field(field), before)
        self.assertEqual(lists, handed)
        return caught.exception

    def assert_arrows(self, field, arrows):
        """All that is told of arrows goes with these."""
        tails, heads = [low for low, _ in arrows], sorted(high for _, high in arrows)
        self.assertEqual(field.arrows(), arrows)
        self.assertEqual((field.tails(), field.heads()), (tails, heads))
        self.assertEqual(field.lone(), [cell for cell in field.cells() if cell not in tails + heads])
        for cell in field.cells():
            self.assertEqual(field.head_of(cell), dict(arrows).get(cell))
            self.assertEqual(field.tail_of(cell), {high: low for low, high in arrows}.get(cell))
        self.assertEqual(sorted(field.order()), tails)
