"""Shapes: full and round bodies, and fields put together of two."""

from slimbody.body import MOST_CELLS, Body
from slimbody.errors import BadRank, Full
from slimbody.field import Field
from slimbody.sums import added

MOST_FULL_POINTS = 6
MOST_ROUND_POINTS = 60


def full_body(n):
    """Tell the body with a cell for each row of some of n points."""
    if n < 0 or n > MOST_FULL_POINTS:
        raise BadRank("there is no full body of so many points")
    body = Body()
    numbers = {}
    rows = [(point,) for point in range(n)]
    while rows:
        for row in rows:
            numbers[row] = body.put(len(row) - 1, sorted([numbers[face] for face in faces(row)]))
        rows = [row + (point,) for row in rows for point in range(row[-1] + 1, n)]
    return body


def faces(row):
    """Tell the rows with one point left out; a single point has none."""
    if len(row) == 1:
        return []
    return [row[:place] + row[place + 1:] for place in range(len(row))]


def round_body(n):
    """Tell the body of n points with stretches from each to the next, all the way round."""
    if n < 1 or n > MOST_ROUND_POINTS:
        raise BadRank("there is no round body of so many points")
    body = Body()
    for point in range(n):
        body.put(0, [])
    for point in range(n):
        body.put(1, added([point], [(point + 1) % n]))
    return body


def apart(one, other):
    """Tell a field with the cells and arrows of the first field, then those of the other."""
    must_not_be_too_many(len(one.cells()) + len(other.cells()))
    field = Field()
    for part in (one, other):
        numbers = {}
        for cell in part.cells():
            numbers[cell] = field.put(part.rank(cell), [numbers[face] for face in part.border(cell)])
        for low, high in part.arrows():
            field.tie(numbers[low], numbers[high])
    return field


def product(one, other):
    """Tell a field with a cell for each pair of cells, and the list of these pairs."""
    pairs = [(a, b) for a in one.cells() for b in other.cells()]
    must_not_be_too_many(len(pairs))
    numbers = {pair: number for number, pair in enumerate(pairs)}
    field = Field()
    for a, b in pairs:
        # The faces are below their cells, so that these pairs rise.
        border = [(face, b) for face in one.border(a)] + [(a, face) for face in other.border(b)]
        field.put(one.rank(a) + other.rank(b), [numbers[pair] for pair in border])
    for a, b in pairs:
        head = paired_head(one, other, a, b)
        if head is not None:
            field.tie(numbers[(a, b)], numbers[head])
    return field, pairs


def paired_head(one, other, a, b):
    """Tell the pair that the pair (a, b) is tied to, or None."""
    if one.head_of(a) is not None:
        return (one.head_of(a), b)
    if one.tail_of(a) is None and other.head_of(b) is not None:
        return (a, other.head_of(b))
    return None


def must_not_be_too_many(count):
    """Refuse more cells than a body bears."""
    if count > MOST_CELLS:
        raise Full("there would be too many cells")
