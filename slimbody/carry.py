"""Carriers between a field and its lone cells."""

from slimbody.sums import added


def filled(field, row):
    """Tell the filler of a sum."""
    field.must_hold(row)
    rest = list(row)
    heads = []
    # In rest a tail is replaced by the others in its head's border, whose fillers its own is made of. One steps to
    # later tails alone, so that none comes back and each is gone to once.
    for tail in field.order():
        if tail in rest:
            head = field.head_of(tail)
            heads.append(head)
            rest = added(rest, field.border(head))
    return sorted(heads)


def down(field, row):
    """Tell the sum of lone cells that a sum is carried down to."""
    return lone_of(field, added(row, field.border_of(filled(field, row))))


def up(field, row):
    """Tell what a sum of lone cells is carried up to."""
    field.must_hold(row)
    field.must_be_lone(row)
    return added(row, filled(field, field.border_of(row)))


def slim_border(field, row):
    """Tell the slim border of a sum of lone cells."""
    return lone_of(field, field.border_of(up(field, row)))


def lone_of(field, row):
    """Tell the lone cells of a sum."""
    return [cell for cell in row if not field.is_tied(cell)]
