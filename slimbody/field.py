"""Fields: bodies with arrows that tie cells two by two."""

from slimbody.body import Body
from slimbody.errors import NotFace, NotLone, NotTied, RingOfArrows, Tied


class Field(Body):
    """A field, at first without cells and arrows."""

    def __init__(self):
        super().__init__()
        # Each arrow stands in both, so that it is found from either of its ends.
        self.head_by_tail = {}
        self.tail_by_head = {}

    def put(self, rank, border):
        """Put a cell in and tell its number."""
        return super().put(rank, border)

    def take(self, cell):
        """Take a cell away that is in no arrow and that none is over."""
        self.must_stand(cell)
        if self.is_tied(cell):
            raise Tied("the cell is in an arrow")
        super().take(cell)

    def stands(self, cell):
        """Tell whether the cell is in the field."""
        return super().stands(cell)

    def cells(self):
        """Tell all standing cells, rising."""
        return super().cells()

    def coming(self):
        """Tell the number that the next cell will get."""
        return super().coming()

    def rank(self, cell):
        """Tell the cell's rank."""
        return super().rank(cell)

    def border(self, cell):
        """Tell the cell's border."""
        return super().border(cell)

    def over(self, cell):
        """Tell the cells with this one in their border."""
        return super().over(cell)

    def border_of(self, row):
        """Tell the border of a sum."""
        return super().border_of(row)

    def of_rank(self, rank):
        """Tell the standing cells of a rank, rising."""
        return super().of_rank(rank)

    def counts(self):
        """Tell how many cells each rank has, up to the highest that stands."""
        return super().counts()

    def twin(self):
        """Tell a field with the same cells and arrows that goes its own way."""
        other = field_on(self)
        other.head_by_tail = dict(self.head_by_tail)
        other.tail_by_head = dict(self.tail_by_head)
        return other

    def tie(self, low, high):
        """Tie the low cell to the high one."""
        self.must_stand(low)
        self.must_stand(high)
        if low not in self.borders[high]:
            raise NotFace("the low cell is not in the high one's border")
        if self.is_tied(low) or self.is_tied(high):
            raise Tied("one of the two is in an arrow")
        ring = self.ring_with(low, high)
        if ring:
            raise RingOfArrows(ring)
        self.head_by_tail[low] = high
        self.tail_by_head[high] = low

    def untie(self, low):
        """Untie the tail and tell the head that it was tied to."""
        self.must_stand(low)
        if low not in self.head_by_tail:
            raise NotTied("the cell is no tail")
        high = self.head_by_tail.pop(low)
        del self.tail_by_head[high]
        return high

    def head_of(self, cell):
        """Tell the head where the cell is a tail, else None."""
        self.must_stand(cell)
        return self.head_by_tail.get(cell)

    def tail_of(self, cell):
        """Tell the tail where the cell is a head, else None."""
        self.must_stand(cell)
        return self.tail_by_head.get(cell)

    def tails(self):
        """Tell the low cells of arrows."""
        return sorted(self.head_by_tail)

    def heads(self):
        """Tell the high cells of arrows."""
        return sorted(self.tail_by_head)

    def lone(self):
        """Tell the cells in no arrow."""
        return [cell for cell in self.cells() if not self.is_tied(cell)]

    def arrows(self):
        """Tell the pairs of a tail and its head, the tails rising."""
        return [(low, self.head_by_tail[low]) for low in self.tails()]

    def order(self):
        """Tell all tails so that one steps to later ones alone."""
        unmet = {tail: 0 for tail in self.head_by_tail}
        for low, high in self.arrows():
            for later in self.steps(low, high):
                unmet[later] += 1
        ready = [tail for tail in self.tails() if unmet[tail] == 0]
        told = []
        while ready:
            tail = ready.pop()
            told.append(tail)
            for later in self.steps(tail, self.head_by_tail[tail]):
                unmet[later] -= 1
                if unmet[later] == 0:
                    ready.append(later)
        return told

    def is_tied(self, cell):
        """Tell whether the cell is in an arrow."""
        return cell in self.head_by_tail or cell in self.tail_by_head

    def must_be_lone(self, row):
        """Refuse standing cells of which one is in an arrow."""
        for cell in row:
            if self.is_tied(cell):
                raise NotLone("a cell is in an arrow")

    def steps(self, low, high):
        """Tell the tails that one steps to from the low cell, with the high one as its head."""
        return [face for face in self.borders[high] if face != low and face in self.head_by_tail]

    def ring_with(self, low, high):
        """Tell a ring that there would be with an arrow from low to high, or nothing."""
        # There is no ring so far, so that any ring there would be goes through the new tail.
        earlier = {low: None}
        waiting = [low]
        while waiting:
            tail = waiting.pop()
            head = self.head_by_tail.get(tail, high)
            if tail != low and low in self.borders[head]:
                return row_from_first(earlier, tail)
            for later in self.steps(tail, head):
                if later not in earlier:
                    earlier[later] = tail
                    waiting.append(later)
        return []


def row_from_first(earlier, last):
    """Tell the row that ends with the last tail, with each one's earlier one ahead of it."""
    row = []
    tail = last
    while tail is not None:
        row.append(tail)
        tail = earlier[tail]
    return row[::-1]


def field_on(body):
    """Tell a field without arrows with the body's cells and next number."""
    field = Field()
    field.copy_cells(body)
    return field
