"""Bodies: cells with ranks and borders."""

from slimbody.errors import BadRank, Covered, Full, NoCell, OpenBorder, OtherRank
from slimbody.sums import must_be_sum, total

MOST_CELLS = 120
TOP_RANK = 12


class Body:
    """A body, at first without cells."""

    def __init__(self):
        self.ranks = {}
        # Borders are kept as tuples, so that twins can share them.
        self.borders = {}
        self.upcoming = 0

    def put(self, rank, border):
        """Put a cell in and tell its number."""
        if rank < 0 or rank > TOP_RANK:
            raise BadRank("there is no such rank")
        self.must_hold(border)
        self.must_have_rank(border, rank - 1)
        if self.border_of(border):
            raise OpenBorder("the border of the border is not nothing")
        if len(self.ranks) >= MOST_CELLS:
            raise Full("no more cells can stand")
        cell = self.upcoming
        self.ranks[cell] = rank
        self.borders[cell] = tuple(border)
        self.upcoming = cell + 1
        return cell

    def take(self, cell):
        """Take a cell away that none is over."""
        if self.over(cell):
            raise Covered("a cell is over it")
        del self.ranks[cell]
        del self.borders[cell]

    def stands(self, cell):
        """Tell whether the cell is in the body."""
        return cell in self.ranks

    def cells(self):
        """Tell all standing cells, rising."""
        return sorted(self.ranks)

    def coming(self):
        """Tell the number that the next cell will get."""
        return self.upcoming

    def rank(self, cell):
        """Tell the cell's rank."""
        self.must_stand(cell)
        return self.ranks[cell]

    def border(self, cell):
        """Tell the cell's border."""
        self.must_stand(cell)
        return list(self.borders[cell])

    def over(self, cell):
        """Tell the cells with this one in their border."""
        self.must_stand(cell)
        return [high for high in self.cells() if cell in self.borders[high]]

    def border_of(self, row):
        """Tell the border of a sum."""
        self.must_hold(row)
        return total([self.borders[cell] for cell in row])

    def of_rank(self, rank):
        """Tell the standing cells of a rank, rising."""
        return [cell for cell in self.cells() if self.ranks[cell] == rank]

    def counts(self):
        """Tell how many cells each rank has, up to the highest that stands."""
        told = []
        for cell in self.cells():
            rank = self.ranks[cell]
            while len(told) <= rank:
                told.append(0)
            told[rank] += 1
        return told

    def twin(self):
        """Tell a body with the same cells that goes its own way."""
        other = Body()
        other.copy_cells(self)
        return other

    def copy_cells(self, body):
        """Have just the cells of another body, and its next number."""
        self.ranks = dict(body.ranks)
        self.borders = dict(body.borders)
        self.upcoming = body.upcoming

    def skip_to(self, number):
        """Have the next cell get this number, which no cell had."""
        self.upcoming = number

    def must_stand(self, cell):
        """Refuse a cell that does not stand."""
        if cell not in self.ranks:
            raise NoCell("there is no such cell")

    def must_hold(self, row):
        """Refuse what is no sum, then a sum with a cell that does not stand."""
        must_be_sum(row)
        for cell in row:
            self.must_stand(cell)

    def must_have_rank(self, row, rank):
        """Refuse standing cells of which one has another rank."""
        for cell in row:
            if self.ranks[cell] != rank:
                raise OtherRank("a cell has another rank")
