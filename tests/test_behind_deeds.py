"""Points 2 and 12 to 21: all is asked again behind each deed, behind refused ones, on twins, and behind changes."""

import random
import unittest

from bodies import GREAT, told, triangle
from cases import FieldTest
from fields import (any_deed, done_to, full_field, grid, rebuilt, rounds_of, some_field, told_carriers, told_field,
                    told_slim, with_gaps)
from slimbody.carry import down
from slimbody.deeds import cancel, fold, grow, settle
from slimbody.errors import BodyError
from slimbody.field import Field
from slimbody.roads import roads
from slimbody.rounds import bar, filling, is_round, slim_filling
from slimbody.slim import slim_body


def answers(field):
    """All that is told of a field, and what greater deeds would tell and leave."""
    rows = [[], field.cells(), field.cells()[::2]] + [[cell] for cell in field.cells()]
    rows += [sorted(row) for rank in range(4) for row in rounds_of(field, rank)]
    filled = [(is_round(field, row), filling(field, row) is None, bar(field, row) is None,
               slim_filling(field, row) is None) for row in rows]
    counts = [roads(field, high, low) for high in field.lone() for low in field.lone()]
    behind = []
    for deed, values in [(settle, ()), (grow, (0, field.of_rank(0)))] + [(fold, (low,)) for low in field.tails()] + [
            (cancel, (high, low)) for high in field.lone() for low in field.border(high)]:
        twin = field.twin()
        try:
            answer = deed(twin, *values)
        except BodyError as refusal:
            answer = refusal.__class__, vars(refusal)
        behind.append((answer, told_field(twin)))
    return told_field(field), told_slim(field), told_carriers(field), filled, counts, behind


class BehindDeedsTest(FieldTest):
    def assert_as_anew(self, field):
        """What is told is what a field built anew tells."""
        self.assertEqual(answers(field), answers(rebuilt(field)))

    def test_each_deed(self):
        field = triangle(Field)
        for deed, values, answer in (
                (field.put, (1, [0, 1]), 7), (field.take, (7,), None), (field.tie, (0, 3), None),
                (cancel, (field, 4, 1), [4, 0, 3, 1]), (field.untie, (1,), 3), (settle, (field,), [(1, 3), (5, 6)]),
                (grow, (field, 0, [0, 2]), (8, 9)), (fold, (field, 5), 6), (fold, (field, 8), 9),
                (field.put, (0, []), 10), (grow, (field, 1, [3]), (11, 12)), (settle, (field,), []),
                (field.untie, (11,), 12), (cancel, (field, 12, 11), [12, 11])):
            self.assert_as_anew(field)
            self.assertEqual(deed(*values), answer)
        self.assert_as_anew(field)

    def test_behind_refused_deeds(self):
        field = triangle(Field)
        settle(field)
        field.untie(1)
        before = answers(field)
        for deed in ((field.put, 1, [3]), (field.put, 13, []), (field.put, 2, [3, 4]), (field.take, 0),
                     (field.take, GREAT), (field.tie, 0, 4), (field.tie, 1, 3), (field.tie, 2, 3), (field.untie, 1),
                     (field.untie, 99), (cancel, field, 5, 0), (cancel, field, 2, 1), (cancel, field, 99, 1),
                     (fold, field, 0), (fold, field, 2), (fold, field, 99), (grow, field, 12, []),
                     (grow, field, 0, [1, 0]), (grow, field, 0, [99]), (grow, field, 0, [3])):
            with self.assertRaises(BodyError):
                deed[0](*deed[1:])
            self.assertEqual(answers(field), before)

    def test_a_ring_refused(self):
        field = triangle(Field)
        field.tie(0, 3)
        field.tie(1, 5)
        before = answers(field)
        with self.assertRaises(BodyError):
            field.tie(2, 4)
        self.assertEqual(answers(field), before)

    def test_many_deeds(self):
        done = {}
        for seed in range(16):
            chance = random.Random(seed)
            field = [triangle(Field), with_gaps(triangle(Field)), some_field(seed, 40)][seed % 3]
            for _ in range(30):
                what = any_deed(chance, field)
                name = what[0]
                if len(field.cells()) > 14 and name in ("grow", "put"):
                    continue
                before = told_field(field)
                try:
                    done_to(field, what)
                except BodyError:
                    self.assertEqual(told_field(field), before)
                    name = "refused " + name
                done[name] = done.get(name, 0) + 1
                self.assert_as_anew(field)
        for name in ("put", "take", "tie", "untie", "settle", "cancel", "fold", "grow"):
            self.assertGreater(done.get(name, 0), 3, done)

    def test_on_twins(self):
        field = with_gaps(triangle(Field))
        settle(field)
        before = answers(field)
        twin = field.twin()
        self.assertEqual(answers(twin), before)
        chance = random.Random(5)
        for _ in range(40):
            try:
                done_to(twin, any_deed(chance, twin))
            except BodyError:
                continue
        self.assertNotEqual(told_field(twin), told_field(field))
        self.assertEqual(answers(field), before)
        self.assert_as_anew(twin)

    def test_behind_changes_of_told_lists(self):
        field = full_field(3)
        field.tie(0, 3)
        before = answers(field)
        body, names = slim_body(field)
        for told_list in (names, filling(field, [3, 4, 5]), bar(field, [0]), slim_filling(field, [3, 4, 5]),
                          down(field, [0]), settle(field.twin()), cancel(field.twin(), 4, 1), field.order()):
            told_list.append(5)
            told_list[0] = 99
            told_list.reverse()
        body.put(0, [])
        self.assertEqual(answers(field), before)

    def test_slim_bodies_asked_by_turns(self):
        one, other = grid(2, 2), with_gaps(full_field(3))
        settle(other)
        for _ in range(2):
            first, second = told_slim(one), told_slim(other)
            self.assertEqual((told_slim(one), told_slim(other)), (first, second))
            self.assertEqual(first[0], told(one))
            settle(one)
            self.assertNotEqual(told_slim(one), first)
            for low in one.tails():
                one.untie(low)


if __name__ == "__main__":
    unittest.main()
