"""Rounds, fillings and bars."""

from slimbody.carry import down, filled, up
from slimbody.slim import from_slim, slim_body, to_slim
from slimbody.sums import added, evenly


def is_round(body, row):
    """Tell whether the border of a sum is nothing."""
    return body.border_of(row) == []


def filling(body, row):
    """Tell a sum whose border the row is, or None."""
    body.must_hold(row)
    rest, told = cleared(cleared_borders(body), row, [])
    if rest:
        return None
    return told


def bar(body, row):
    """Tell a sum that meets each cell's border evenly and the row not evenly, or None."""
    body.must_hold(row)
    rungs = cleared_borders(body)
    rest = cleared(rungs, row, [])[0]
    if not rest:
        return None
    # All that comes in later is above the rest's cells and above those of the rungs ahead: what they meet stays.
    told = [rest[-1]]
    for last in sorted(rungs):
        border = rungs[last][0]
        if not evenly(border, told):
            told.append(last)
    return told


def slim_filling(field, row):
    """Tell a filling of a round by way of the slim body, or None."""
    if not is_round(field, row):
        return None
    body, names = slim_body(field)
    slim = filling(body, to_slim(names, down(field, row)))
    if slim is None:
        return None
    # Carried down and up again, the round is itself added to the border of its filler.
    return added(up(field, from_slim(names, slim)), filled(field, row))


def cleared_borders(body):
    """Tell borders, each by its own last cell and with a filling, of which all borders can be added."""
    rungs = {}
    for cell in body.cells():
        rest, row = cleared(rungs, body.border(cell), [cell])
        if rest:
            rungs[rest[-1]] = (rest, row)
    return rungs


def cleared(rungs, border, row):
    """Add to the border the rung of its last cell as long as there is one, and to the row that rung's filling."""
    while border and border[-1] in rungs:
        rung_border, rung_row = rungs[border[-1]]
        border = added(border, rung_border)
        row = added(row, rung_row)
    return border, row
