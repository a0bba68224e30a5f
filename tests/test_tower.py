"""Points 2, 17, 22 and 23: towers."""

import contextlib
import random
import unittest

from bodies import GREAT, points, told, triangle
from fields import (closed_row, full_field, grid, many_fields, row_of_points, settled, some_sums, soon, tied_row,
                    tied_triangle, told_field, with_gaps)
from slimbody.body import Body
from slimbody.carry import down, filled, slim_border, up
from slimbody.errors import BodyError, Ground, NoCell, NotASum, NotFace, NotLone, NotTied, RingOfArrows, Tied
from slimbody.field import Field
from slimbody.slim import slim_body
from slimbody.sums import total
from slimbody.tower import Tower


def told_tower(tower):
    """All that a tower tells of its floors."""
    return [told_field(tower.floor(k)) for k in range(tower.floors())]


def tie_some(tower, chance):
    """Tie some pairs of the top floor."""
    top = tower.floor(tower.floors() - 1)
    for low in top.cells():
        for high in top.over(low):
            if chance.randrange(3) == 0:
                with contextlib.suppress(BodyError):
                    tower.tie(low, high)


def built(body, seed, floors):
    """A tower with that many floors, with some arrows on each, and the names that building told."""
    chance = random.Random(seed)
    tower, names = Tower(body), []
    tie_some(tower, chance)
    while tower.floors() < floors:
        names.append(tower.build())
        tie_some(tower, chance)
    return tower, names


def fields_of(tower):
    """The fields of all floors."""
    return [tower.floor(k) for k in range(tower.floors())]


def renamed(names, row):
    """A sum of lone cells in the numbers of the floor above."""
    return sorted(names.index(cell) for cell in row)


def renamed_back(names, row):
    """A sum of cells by their names on the floor below."""
    return sorted(names[cell] for cell in row)


def down_by_words(fields, names, row):
    """Point 23: floor by floor."""
    for field, own in zip(fields, names):
        row = renamed(own, down(field, row))
    return down(fields[-1], row)


def up_by_words(fields, names, row):
    """Point 23: the same way back."""
    row = up(fields[-1], row)
    for field, own in list(zip(fields, names))[::-1]:
        row = up(field, renamed_back(own, row))
    return row


def filler_by_words(fields, names, row):
    """Point 23: by the lowest floor, and by the floors above as a tower of their own."""
    if len(fields) == 1:
        return filled(fields[0], row)
    above = filler_by_words(fields[1:], names[1:], renamed(names[0], down(fields[0], row)))
    return total([filled(fields[0], row), up(fields[0], renamed_back(names[0], above))])


def many_towers():
    """Towers of one to five floors, with the names that building told."""
    bodies = [Body(), triangle(), full_field(4), full_field(5), grid(3, 3), with_gaps(grid(2, 2)), row_of_points(12),
              with_gaps(closed_row(7)), points(4)] + many_fields()[20:60:4]
    return [built(body, 10 * place + floors, floors) for place, body in enumerate(bodies) for floors in range(1, 6)]


class TowerTest(unittest.TestCase):
    def assert_refused(self, refusal, tower, ask, *values):
        before, handed = told_tower(tower), [list(value) for value in values if isinstance(value, list)]
        with self.assertRaises(refusal) as caught:
            ask(*values)
        self.assertIs(caught.exception.__class__, refusal)
        self.assertEqual(told_tower(tower), before)
        self.assertEqual([value for value in values if isinstance(value, list)], handed)
        return caught.exception

    def assert_above(self, tower, names):
        """The top floor is a field without arrows on the slim body of the floor below, with its names."""
        top, below = tower.floor(tower.floors() - 1), tower.floor(tower.floors() - 2)
        body, own = slim_body(below)
        self.assertEqual(names, own)
        self.assertEqual((told(top), top.arrows()), (told(body), []))
        self.assertIs(top.__class__, Field)


class FloorsTest(TowerTest):
    def test_of_a_body(self):
        body = triangle()
        body.take(6)
        body.take(body.put(0, []))
        before = told(body)
        tower = Tower(body)
        self.assertEqual(tower.floors(), 1)
        floor = tower.floor(0)
        self.assertIs(floor.__class__, Field)
        self.assertEqual((told(floor), floor.arrows(), floor.coming()), (before, [], 8))
        self.assertEqual(told(body), before)

    def test_of_a_field(self):
        field = with_gaps(tied_triangle())
        before = told_field(field)
        tower = Tower(field)
        self.assertEqual((told(tower.floor(0)), tower.floor(0).arrows()), (before[0], []))
        tower.settle()
        tower.build()
        tower.raze()
        self.assertEqual(told_field(field), before)

    def test_the_body_goes_its_own_way(self):
        for body in (triangle(), tied_triangle()):
            tower = Tower(body)
            before = told_tower(tower)
            body.take(6)
            body.put(1, [0, 1])
            self.assertEqual(told_tower(tower), before)
        tower.tie(0, 3)
        self.assertEqual(body.arrows(), [(0, 3), (1, 5)])

    def test_without_cells(self):
        tower = Tower(Body())
        self.assertEqual(tower.build(), [])
        self.assertEqual(tower.settle(), [])
        self.assertEqual((tower.floors(), told_tower(tower)), (2, [told_field(Field())] * 2))
        for ask in (tower.down, tower.up, tower.filled, tower.slim_border):
            self.assertEqual(ask([]), [])

    def test_a_floor_is_a_twin(self):
        tower = Tower(triangle())
        tower.tie(0, 3)
        tower.build()
        tower.tie(0, 2)
        before = told_tower(tower)
        for k in (0, 1):
            floor = tower.floor(k)
            floor.untie(0)
            floor.put(0, [])
            self.assertEqual(told_tower(tower), before)
            self.assertNotEqual(told_field(floor), before[k])

    def test_build(self):
        tower = Tower(triangle())
        tower.tie(0, 3)
        names = tower.build()
        self.assertIs(names.__class__, list)
        self.assertEqual((names, tower.floors()), ([1, 2, 4, 5, 6], 2))
        self.assert_above(tower, names)
        tower.tie(0, 2)
        self.assertEqual(tower.build(), [1, 3, 4])
        self.assert_above(tower, [1, 3, 4])
        self.assertEqual(tower.floor(2).coming(), 3)
        self.assertEqual([tower.floor(k).arrows() for k in range(3)], [[(0, 3)], [(0, 2)], []])

    def test_build_without_arrows(self):
        body = with_gaps(triangle(Field))
        tower = Tower(body)
        self.assertEqual(tower.build(), body.cells())
        self.assertEqual(tower.floor(1).cells(), list(range(7)))
        self.assertEqual(tower.build(), list(range(7)))
        self.assertEqual(told_field(tower.floor(1)), told_field(tower.floor(2)))
        self.assertEqual(tower.floor(0).coming(), body.coming())

    def test_build_without_lone_cells(self):
        body = Body()
        body.put(0, [])
        body.put(1, [0])
        tower = Tower(body)
        tower.settle()
        self.assertEqual((tower.build(), tower.build(), tower.floors()), ([], [], 3))
        self.assertEqual((tower.down([0, 1]), tower.filled([0]), tower.up([])), ([], [1], []))

    def test_raze(self):
        tower = Tower(triangle())
        tower.tie(0, 3)
        before = told_tower(tower)
        tower.build()
        tower.tie(0, 2)
        self.assertIsNone(tower.raze())
        self.assertEqual(told_tower(tower), before)
        tower.tie(1, 5)
        self.assertEqual(tower.build(), [2, 4, 6])
        self.assert_above(tower, [2, 4, 6])

    def test_ground(self):
        tower = Tower(triangle())
        self.assert_refused(Ground, tower, tower.raze)
        tower.settle()
        self.assert_refused(Ground, tower, tower.raze)
        tower.build()
        tower.raze()
        self.assert_refused(Ground, tower, tower.raze)
        self.assertEqual(tower.floors(), 1)
        self.assertRaises(Ground, Tower(Body()).raze)

    def test_by_turns(self):
        tower, shown = Tower(grid(3, 3)), []
        chance = random.Random(3)
        tie_some(tower, chance)
        for step in "brbbrrbbbbrrrrbbr":
            if step == "b":
                shown.append(told_tower(tower))
                self.assert_above(tower, tower.build())
                tie_some(tower, chance)
            else:
                tower.raze()
                self.assertEqual(told_tower(tower), shown.pop())
            self.assertEqual(tower.floors(), len(shown) + 1)

    def test_names_are_the_askers_own(self):
        tower = Tower(triangle())
        tower.tie(0, 3)
        names = tower.build()
        answers = [tower.down([0, 4]), tower.up([0, 2]), tower.filled([0])]
        before = told_tower(tower)
        names.reverse()
        names[0] = 99
        names.append(3)
        self.assertEqual(told_tower(tower), before)
        self.assertEqual([tower.down([0, 4]), tower.up([0, 2]), tower.filled([0])], answers)

    def test_two_towers_are_apart(self):
        body = triangle()
        one, other = Tower(body), Tower(body)
        one.tie(0, 3)
        one.build()
        self.assertEqual(told_tower(other), [told_field(triangle(Field))])

    def test_a_tower_of_a_floor(self):
        tower = Tower(triangle())
        tower.tie(0, 3)
        again = Tower(tower.floor(0))
        self.assertEqual(told_tower(again), [told_field(triangle(Field))])

    def test_very_many_floors(self):
        tower = Tower(triangle())
        with soon():
            for _ in range(1500):
                tower.build()
            tower.tie(0, 3)
            self.assertEqual(tower.build(), [1, 2, 4, 5, 6])
            self.assertEqual((tower.down([0, 4]), tower.up([2]), tower.filled([0])), ([0, 2], [3, 4], [3]))
            for _ in range(1501):
                tower.raze()
        self.assertEqual(tower.floors(), 1)


class ArrowsTest(TowerTest):
    def test_what_is_told(self):
        tower = Tower(triangle())
        self.assertIsNone(tower.tie(0, 3))
        self.assertEqual(tower.floor(0).arrows(), [(0, 3)])
        self.assertEqual(tower.untie(0), 3)
        self.assertEqual(tower.floor(0).arrows(), [])
        self.assertEqual(tower.settle(), [(0, 3), (1, 5), (4, 6)])
        self.assertEqual(tower.settle(), [])
        self.assertEqual(tower.floor(0).arrows(), [(0, 3), (1, 5), (4, 6)])

    def test_on_the_top_floor_alone(self):
        tower = Tower(triangle())
        tower.tie(0, 3)
        tower.build()
        ground = told_field(tower.floor(0))
        tower.tie(1, 3)
        self.assertEqual(tower.floor(1).arrows(), [(1, 3)])
        self.assertEqual(tower.untie(1), 3)
        self.assertEqual(tower.settle(), [(0, 2), (3, 4)])
        self.assertEqual(tower.floor(1).arrows(), [(0, 2), (3, 4)])
        self.assertEqual(told_field(tower.floor(0)), ground)
        tower.build()
        middle = told_field(tower.floor(1))
        self.assertEqual(tower.settle(), [])
        self.assertEqual((told_field(tower.floor(0)), told_field(tower.floor(1))), (ground, middle))
        tower.raze()
        tower.raze()
        self.assertEqual(tower.untie(0), 3)

    def test_the_told_pairs_are_the_askers_own(self):
        tower = Tower(triangle())
        pairs = tower.settle()
        before = told_tower(tower)
        pairs.clear()
        self.assertEqual(told_tower(tower), before)

    def test_refused_as_a_fields(self):
        for floors in (1, 2, 3):
            tower = Tower(triangle())
            while tower.floors() < floors:
                tower.build()
            tower.tie(0, 3)
            tower.tie(1, 5)
            for low, high in ((7, 3), (0, 7), (-1, -1), (GREAT, 0)):
                self.assert_refused(NoCell, tower, tower.tie, low, high)
            self.assert_refused(NotFace, tower, tower.tie, 0, 6)
            self.assert_refused(Tied, tower, tower.tie, 0, 4)
            self.assertEqual(self.assert_refused(RingOfArrows, tower, tower.tie, 2, 4).ring, [2, 0, 1])
            for cell in (-1, 7, GREAT):
                self.assert_refused(NoCell, tower, tower.untie, cell)
            for cell in (2, 3, 6):
                self.assert_refused(NotTied, tower, tower.untie, cell)

    def test_refused_by_the_top_floors_numbers(self):
        tower = Tower(triangle())
        tower.tie(0, 3)
        tower.build()
        self.assert_refused(NoCell, tower, tower.tie, 1, 5)
        self.assert_refused(NoCell, tower, tower.untie, 5)
        self.assert_refused(NotTied, tower, tower.untie, 0)
        self.assert_refused(NotFace, tower, tower.tie, 0, 4)
        tower.tie(0, 3)
        self.assertEqual(tower.untie(0), 3)


class CarriersTest(TowerTest):
    def test_one_floor(self):
        for number, field in enumerate(many_fields()[::3]):
            tower = Tower(field)
            for low, high in field.arrows():
                tower.tie(low, high)
            for row in some_sums(field.cells(), random.Random(number), 4):
                self.assertEqual(tower.filled(row), filled(field, row))
                self.assertEqual(tower.down(row), down(field, row))
            for row in some_sums(field.lone(), random.Random(number), 4):
                self.assertEqual(tower.up(row), up(field, row))
                self.assertEqual(tower.slim_border(row), slim_border(field, row))

    def test_two_floors(self):
        tower = Tower(triangle())
        tower.tie(0, 3)
        self.assertEqual(tower.build(), [1, 2, 4, 5, 6])
        # Floor 1: the points 0, 1, the stretches 2, 3 over both, 4 over the stretches.
        tower.tie(0, 2)
        self.assertEqual(tower.down([0]), [1])
        self.assertEqual(tower.down([1]), [1])
        self.assertEqual(tower.down([4]), [])
        self.assertEqual(tower.down([0, 5, 6]), [1, 3, 4])
        self.assertEqual(tower.up([1]), [2])
        self.assertEqual(tower.up([3]), [3, 4, 5])
        self.assertEqual(tower.filled([0]), [4])
        self.assertEqual(tower.filled([1]), [3, 4])
        self.assertEqual(tower.filled([0, 1]), [3])
        self.assertEqual(tower.slim_border([3]), [])
        self.assertEqual(tower.slim_border([4]), [3])

    def test_three_floors(self):
        tower = Tower(triangle())
        tower.tie(0, 3)
        tower.build()
        tower.tie(0, 2)
        self.assertEqual(tower.build(), [1, 3, 4])
        tower.tie(1, 2)
        self.assertEqual(tower.down([0]), [0])
        self.assertEqual(tower.down([3, 4, 5]), [])
        self.assertEqual(tower.down([0, 1, 2, 6]), [0])
        self.assertEqual(tower.up([0]), [2])
        self.assertEqual(tower.filled([5]), [6])
        self.assertEqual(tower.filled([0, 5]), [4, 6])

    def test_by_words(self):
        for number, (tower, names) in enumerate(many_towers()):
            fields = fields_of(tower)
            for row in some_sums(fields[0].cells(), random.Random(number), 4):
                self.assertEqual(tower.filled(row), filler_by_words(fields, names, row))
                self.assertEqual(tower.down(row), down_by_words(fields, names, row))
            for row in some_sums(fields[-1].lone(), random.Random(number), 4):
                self.assertEqual(tower.up(row), up_by_words(fields, names, row))
                self.assertEqual(tower.slim_border(row), slim_border(fields[-1], row))

    def test_sentences(self):
        for number, (tower, _) in enumerate(many_towers()):
            ground, lone = tower.floor(0), tower.floor(tower.floors() - 1).lone()
            for row in some_sums(ground.cells(), random.Random(number), 3):
                self.assert_sentences(tower, ground, row)
            for row in some_sums(lone, random.Random(number), 3):
                self.assert_lone_sentences(tower, ground, row)

    def assert_sentences(self, tower, ground, row):
        filler, border = tower.filled(row), ground.border_of(row)
        self.assertEqual(tower.down(border), tower.slim_border(tower.down(row)))
        whole = total([row, ground.border_of(filler), tower.filled(border)])
        self.assertEqual(tower.up(tower.down(row)), whole)
        self.assertEqual((tower.filled(filler), tower.down(filler)), ([], []))

    def assert_lone_sentences(self, tower, ground, row):
        self.assertEqual(tower.slim_border(tower.slim_border(row)), [])
        self.assertEqual(ground.border_of(tower.up(row)), tower.up(tower.slim_border(row)))
        self.assertEqual(tower.down(tower.up(row)), row)
        self.assertEqual(tower.filled(tower.up(row)), [])

    def test_asked_again(self):
        tower = Tower(triangle())
        self.assertEqual((tower.down([0]), tower.filled([0]), tower.up([4])), ([0], [], [4]))
        tower.tie(0, 3)
        self.assertEqual((tower.down([0]), tower.filled([0]), tower.up([4])), ([1], [3], [3, 4]))
        tower.build()
        self.assertEqual((tower.down([0]), tower.filled([0]), tower.up([4])), ([0], [3], [6]))
        tower.tie(0, 2)
        self.assertEqual((tower.down([0]), tower.filled([0]), tower.up([4])), ([1], [4], [6]))
        tower.untie(0)
        self.assertEqual((tower.down([0]), tower.filled([0]), tower.up([2])), ([0], [3], [3, 4]))
        tower.raze()
        self.assertEqual((tower.down([0]), tower.filled([0]), tower.up([4])), ([1], [3], [3, 4]))
        tower.untie(0)
        self.assertEqual((tower.down([0]), tower.filled([0]), tower.slim_border([4])), ([0], [], [0, 2]))
        tower.settle()
        self.assertEqual((tower.down([0]), tower.filled([0]), tower.slim_border([2])), ([2], [3, 5], []))

    def test_slim_border_asked_again(self):
        tower = Tower(tied_row(4))
        self.assertEqual(tower.slim_border([4]), [0, 1])
        tower.tie(1, 5)
        self.assertEqual(tower.slim_border([4]), [0, 2])
        tower.build()
        self.assertEqual(tower.slim_border([3]), [0, 1])
        tower.tie(1, 4)
        self.assertEqual(tower.slim_border([3]), [0, 2])
        tower.raze()
        self.assertEqual(tower.slim_border([4]), [0, 2])

    def test_great_towers_soon(self):
        for body in (grid(5, 6), full_field(6), settled(grid(4, 4))):
            with soon():
                tower, names = built(body, 6, 5)
                ground = tower.floor(0)
                for row in some_sums(ground.cells(), random.Random(1), 2)[-4:]:
                    self.assert_sentences(tower, ground, row)
                for row in some_sums(tower.floor(4).lone(), random.Random(1), 2)[-4:]:
                    self.assert_lone_sentences(tower, ground, row)


class RefusalsTest(TowerTest):
    def towers(self):
        """Towers of one, two and three floors; no floor but the lowest has the cell 6, nor has one the cell 7."""
        for floors in (1, 2, 3):
            tower = Tower(triangle())
            while tower.floors() < floors:
                if tower.floors() == 1:
                    tower.tie(0, 3)
                tower.build()
            tower.tie(1, 3)
            yield tower

    def test_not_a_sum(self):
        for tower in self.towers():
            for ask in (tower.filled, tower.down, tower.up, tower.slim_border):
                for row in ([1, 0], [0, 0], [99, 0], [GREAT, GREAT], [2, 2], [0, 2, 1], [3, 1]):
                    self.assert_refused(NotASum, tower, ask, row)

    def test_no_cell(self):
        for tower in self.towers():
            for ask in (tower.filled, tower.down, tower.up, tower.slim_border):
                for cell in (-1, 7, GREAT, -GREAT):
                    self.assert_refused(NoCell, tower, ask, [cell])
                    self.assert_refused(NoCell, tower, ask, sorted([1, cell]))
                    self.assert_refused(NoCell, tower, ask, sorted([0, 3, cell]))

    def test_by_floor_0(self):
        for tower in self.towers():
            for ask in (tower.filled, tower.down):
                for row in ([0], [1], [3], [6], [0, 1, 2, 3, 4, 5, 6]):
                    self.assertIsInstance(ask(row), list)

    def test_by_the_top_floor(self):
        for tower in self.towers():
            for ask in (tower.up, tower.slim_border):
                for row in ([1], [3], [0, 1], [1, 2, 3]):
                    self.assert_refused(NotLone, tower, ask, row)
                for row in ([0], [2], [0, 2, 4]):
                    self.assertIsInstance(ask(row), list)
                if tower.floors() > 1:
                    self.assert_refused(NoCell, tower, ask, [6])
                    self.assert_refused(NoCell, tower, ask, [1, 5])
                else:
                    self.assertIsInstance(ask([6]), list)

    def test_a_gap_on_floor_0(self):
        body = triangle()
        body.take(body.put(0, []))
        body.put(0, [])
        tower = Tower(body)
        tower.build()
        for ask in (tower.filled, tower.down):
            self.assert_refused(NoCell, tower, ask, [7])
            self.assertEqual(ask([8]), [] if ask == tower.filled else [3])
        for ask in (tower.up, tower.slim_border):
            self.assert_refused(NoCell, tower, ask, [8])
            self.assertEqual(ask([3]), [] if ask == tower.slim_border else [8])


class ListsTest(TowerTest):
    def test_told_and_handed_in_lists(self):
        for tower, _ in many_towers()[5:25]:
            lone = tower.floor(tower.floors() - 1).lone()
            before = told_tower(tower)
            for ask, row in ((tower.filled, tower.floor(0).cells()), (tower.down, tower.floor(0).cells()),
                             (tower.down, []), (tower.up, lone), (tower.up, []), (tower.slim_border, lone)):
                handed = list(row)
                answer = ask(handed)
                self.assertEqual(handed, row)
                kept = list(answer)
                answer.append(77)
                answer.insert(0, -5)
                handed.append(99)
                self.assertEqual(ask(row), kept)
                self.assertEqual(told_tower(tower), before)

    def test_changing_what_was_handed_in_changes_nothing_told(self):
        tower = Tower(triangle())
        for _ in range(2):
            for ask in (tower.down, tower.up):
                row = [0, 3]
                answer = ask(row)
                row.clear()
                self.assertEqual(answer, [0, 3])
            tower.build()


if __name__ == "__main__":
    unittest.main()
