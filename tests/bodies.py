"""What the tests of bodies share."""

from slimbody.body import Body

GREAT = 10 ** 5000


def triangle(kind=Body):
    """Points 0 to 2, stretches 3 to 5, the triangle 6."""
    body = kind()
    for _ in range(3):
        body.put(0, [])
    for border in ([0, 1], [0, 2], [1, 2]):
        body.put(1, border)
    body.put(2, [3, 4, 5])
    return body


def points(count, kind=Body):
    """A body of that many points."""
    body = kind()
    for _ in range(count):
        body.put(0, [])
    return body


def full(kind=Body):
    """The triangle and points up to 120 cells."""
    body = triangle(kind)
    while len(body.cells()) < 120:
        body.put(0, [])
    return body


def told(body):
    """All that a body tells of itself."""
    cells = body.cells()
    rows = [(cell, body.rank(cell), body.border(cell), body.over(cell), body.stands(cell)) for cell in cells]
    ranks = [body.of_rank(rank) for rank in range(-1, 14)]
    return cells, rows, ranks, body.counts(), body.coming()
