"""Greater deeds on fields: settling, cancelling, folding, growing."""

from slimbody.body import MOST_CELLS, TOP_RANK
from slimbody.errors import BadRank, Covered, Full, NotTied, RingOfArrows, Tied
from slimbody.roads import only_road
from slimbody.sums import added


def settle(field):
    """Tie each pair that is not refused at its turn, and tell these pairs."""
    pairs = [(low, high) for low in field.cells() for high in field.over(low)]
    told = []
    for low, high in pairs:
        try:
            field.tie(low, high)
        except (Tied, RingOfArrows):
            continue
        told.append((low, high))
    return told


def cancel(field, high, low):
    """Turn the one road from the high cell to the low one, and tell it."""
    road = only_road(field, high, low)
    uppers = road[0::2]
    lowers = road[1::2]
    for tail in lowers[:-1]:
        field.untie(tail)
    # As there was one road alone, turning it makes no ring.
    for lower, upper in zip(lowers, uppers):
        field.tie(lower, upper)
    return road


def fold(field, low):
    """Take a tail and its head away, and tell the head."""
    high = field.head_of(low)
    if high is None:
        raise NotTied("the cell is no tail")
    if field.over(low) != [high] or field.over(high):
        raise Covered("another cell is over one of the two")
    field.untie(low)
    field.take(high)
    field.take(low)
    return high


def grow(field, rank, row):
    """Put in a low cell and a high one over it and the sum, tie them, and tell both."""
    if rank < 0 or rank >= TOP_RANK:
        raise BadRank("there is no such rank to grow on")
    field.must_hold(row)
    field.must_have_rank(row, rank)
    if len(field.cells()) > MOST_CELLS - 2:
        raise Full("two more cells cannot stand")
    low = field.put(rank, field.border_of(row))
    high = field.put(rank + 1, added(row, [low]))
    field.tie(low, high)
    return low, high
