"""The refusals.

No message shows a number that was handed in: one of very many figures could not be written out.
"""


class BodyError(ValueError):
    """Any refusal."""


class NotASum(BodyError):
    """A list does not rise strictly."""


class NoCell(BodyError):
    """A cell does not stand."""


class BadRank(BodyError):
    """A rank, or a count of points, is out of bounds."""


class OtherRank(BodyError):
    """A cell has not the rank that is asked for."""


class OpenBorder(BodyError):
    """The border of a border is not nothing."""


class Full(BodyError):
    """There would be too many cells."""


class Covered(BodyError):
    """A cell is over one that is to be taken away."""


class NotFace(BodyError):
    """The low cell is not in the high one's border."""


class Tied(BodyError):
    """A cell is in an arrow."""


class NotTied(BodyError):
    """A cell is no tail."""


class RingOfArrows(BodyError):
    """There would be a ring of arrows; `ring` is the list of its tails."""

    def __init__(self, ring=()):
        super().__init__("there would be a ring of arrows")
        self.ring = list(ring)


class NotLone(BodyError):
    """A cell is in an arrow and should be lone."""


class ManyRoads(BodyError):
    """There is not just one road; `many` is the count of roads."""

    def __init__(self, many=0):
        super().__init__("there is not just one road")
        self.many = many


class Ground(BodyError):
    """A tower's one floor cannot be razed."""


class NothingBack(BodyError):
    """There is no deed to take back."""


class BadRow(BodyError):
    """A text cannot be read; `at` is the place of the row at fault."""

    def __init__(self, at=0):
        super().__init__("a row cannot be read")
        self.at = at
