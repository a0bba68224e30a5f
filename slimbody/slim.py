"""Slim bodies: what is left without an arrow, as a body of its own."""

from slimbody.body import Body
from slimbody.carry import slim_border


def slim_body(field):
    """Tell the slim body of a field, and the lone cells that its cells stand for."""
    names = sorted(field.lone(), key=lambda cell: (field.rank(cell), cell))
    body = Body()
    # A slim border has lower ranks alone, so that its cells are put in ahead of the cell.
    for name in names:
        body.put(field.rank(name), to_slim(names, slim_border(field, [name])))
    return body, names


def to_slim(names, row):
    """Tell a sum of lone cells in the slim body's numbers."""
    return sorted([names.index(cell) for cell in row])


def from_slim(names, row):
    """Tell a sum of the slim body in the field's numbers."""
    return sorted([names[cell] for cell in row])
