"""Towers: rows of fields, each on the slim body of the one below it."""

from slimbody.carry import down, filled, slim_border, up
from slimbody.deeds import settle
from slimbody.errors import Ground
from slimbody.field import field_on
from slimbody.slim import from_slim, slim_body, to_slim
from slimbody.sums import added


class Tower:
    """A tower, at first with one floor: a field without arrows on the body's cells."""

    def __init__(self, body):
        self.levels = [field_on(body)]
        # For each floor but the top one, what the cells of the floor above are called there.
        self.renamings = []

    def floors(self):
        """Tell the count of floors."""
        return len(self.levels)

    def floor(self, k):
        """Tell a twin of the field of floor k."""
        return self.levels[k].twin()

    def build(self):
        """Put a floor on the top, and tell the names of its cells on the floor below."""
        body, names = slim_body(self.top())
        self.levels.append(field_on(body))
        self.renamings.append(names)
        return list(names)

    def raze(self):
        """Take the top floor away."""
        if not self.renamings:
            raise Ground("there is one floor alone")
        self.levels.pop()
        self.renamings.pop()

    def tie(self, low, high):
        """Tie two cells of the top floor."""
        self.top().tie(low, high)

    def untie(self, low):
        """Untie a tail of the top floor and tell the head that it was tied to."""
        return self.top().untie(low)

    def settle(self):
        """Settle the top floor and tell the pairs that were tied."""
        return settle(self.top())

    def filled(self, row):
        """Tell the filler of a sum of floor 0."""
        rows = self.rows_by_floor(row)
        told = filled(self.top(), rows[-1])
        for field, names, own in reversed(list(zip(self.levels, self.renamings, rows))):
            told = added(filled(field, own), up(field, from_slim(names, told)))
        return told

    def down(self, row):
        """Tell the sum of the top floor's lone cells that a sum of floor 0 is carried down to."""
        return down(self.top(), self.rows_by_floor(row)[-1])

    def up(self, row):
        """Tell the sum of floor 0 that a sum of the top floor's lone cells is carried up to."""
        told = up(self.top(), row)
        for field, names in reversed(list(zip(self.levels, self.renamings))):
            told = up(field, from_slim(names, told))
        return told

    def slim_border(self, row):
        """Tell the slim border of a sum of the top floor's lone cells."""
        return slim_border(self.top(), row)

    def top(self):
        """Tell the top floor's own field."""
        return self.levels[-1]

    def rows_by_floor(self, row):
        """Tell what a sum of floor 0 comes to on each floor, in that floor's numbers."""
        rows = [row]
        for field, names in zip(self.levels, self.renamings):
            rows.append(to_slim(names, down(field, rows[-1])))
        return rows
