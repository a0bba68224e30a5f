"""What the tests of fields share: fields to try things on, and the points' words told once more, step by step."""

import contextlib
import itertools
import random
import signal

from bodies import points, told, triangle
from slimbody.carry import down, filled, slim_border, up
from slimbody.deeds import cancel, fold, grow, settle
from slimbody.errors import BodyError
from slimbody.field import Field
from slimbody.slim import slim_body


@contextlib.contextmanager
def soon(seconds=20):
    """Fail where what is done inside does not end soon."""
    def late(number, frame):
        raise AssertionError("it was not told soon")
    former = signal.signal(signal.SIGALRM, late)
    signal.setitimer(signal.ITIMER_REAL, seconds)
    try:
        yield
    finally:
        signal.setitimer(signal.ITIMER_REAL, 0)
        signal.signal(signal.SIGALRM, former)


def told_field(field):
    """All that a field tells of itself."""
    ends = [(field.head_of(cell), field.tail_of(cell)) for cell in field.cells()]
    return told(field), field.arrows(), field.tails(), field.heads(), field.lone(), ends


def told_slim(field):
    """The slim body and its names."""
    body, names = slim_body(field)
    return told(body), names


def told_carriers(field, *gone):
    """What the carriers tell of each cell, and of sums of all and of the lone ones, without some cells."""
    cells = [cell for cell in field.cells() if cell not in gone]
    lone = [cell for cell in field.lone() if cell not in gone]
    rows = [[cell] for cell in cells] + [cells, cells[::2]]
    lone_rows = [[cell] for cell in lone] + [lone, lone[::2]]
    return [(row, filled(field, row), down(field, row)) for row in rows] + [
        (row, up(field, row), slim_border(field, row)) for row in lone_rows]


def evens(*cells):
    """The cells added by evens."""
    return sorted(cell for cell in set(cells) if cells.count(cell) % 2)


def tied_triangle():
    """The triangle with points 0 and 1 tied to stretches 3 and 5: lone are 2, 4, 6."""
    field = triangle(Field)
    field.tie(0, 3)
    field.tie(1, 5)
    return field


def row_of_points(count):
    """Points 0 to count - 1, and stretches from each to the next: count + i has the border i, i + 1."""
    field = Field()
    for _ in range(count):
        field.put(0, [])
    for point in range(count - 1):
        field.put(1, [point, point + 1])
    return field


def tied_row(count):
    """A row of points with each point but the first and the last tied to the next stretch."""
    field = row_of_points(count)
    for point in range(1, count - 1):
        field.tie(point, count + point)
    return field


def closed_row(count):
    """Points 0 to count - 1, and stretches from each to the next and from the last to the first."""
    field = row_of_points(count)
    field.put(1, evens(0, count - 1))
    return field


def fan(count):
    """Tails 0 to count - 1, from each of which one steps to all later ones, and the lone point `count`.

    The head of tail i is count + 1 + i, with all points from i on in its border; the last cell has all in its border.
    """
    field = Field()
    for _ in range(count + 1):
        field.put(0, [])
    for tail in range(count):
        field.put(1, list(range(tail, count + 1)))
    field.put(1, list(range(count + 1)))
    for tail in range(count):
        field.tie(tail, count + 1 + tail)
    return field


def dense(lows, highs, seed):
    """Points, and stretches with about half of them in their borders."""
    chance = random.Random(seed)
    field = points(lows, Field)
    for _ in range(highs):
        field.put(1, [low for low in range(lows) if chance.randrange(2)])
    return field


def full_field(count):
    """The cells of all rows of some of the points, by length."""
    field = Field()
    numbers = {}
    for length in range(1, count + 1):
        for row in itertools.combinations(range(count), length):
            faces = itertools.combinations(row, length - 1) if length > 1 else []
            numbers[row] = field.put(length - 1, sorted(numbers[face] for face in faces))
    return field


def grid(wide, high):
    """The product of two closed rows: points, stretches, squares."""
    field = Field()
    corners = {(x, y): field.put(0, []) for x in range(wide) for y in range(high)}
    flat, steep = {}, {}
    for x, y in corners:
        flat[x, y] = field.put(1, evens(corners[x, y], corners[(x + 1) % wide, y]))
        steep[x, y] = field.put(1, evens(corners[x, y], corners[x, (y + 1) % high]))
    for x, y in corners:
        field.put(2, evens(flat[x, y], flat[x, (y + 1) % high], steep[x, y], steep[(x + 1) % wide, y]))
    return field


def with_gaps(field):
    """The same cells put into a field where numbers are missing."""
    other = Field()
    numbers = {}
    for cell in field.cells():
        for _ in range(cell % 3 + 1):
            other.take(other.put(cell % 13, []))
        numbers[cell] = other.put(field.rank(cell), [numbers[face] for face in field.border(cell)])
    for low, high in field.arrows():
        other.tie(numbers[low], numbers[high])
    return other


def pairs_by_words(field):
    """Point 12: each pair is tied that is not refused at its turn; these pairs."""
    pairs = []
    for low in field.cells():
        for high in field.over(low):
            with contextlib.suppress(BodyError):
                field.tie(low, high)
                pairs.append((low, high))
    return pairs


def settled(field):
    """The field, settled by hand."""
    pairs_by_words(field)
    return field


def rebuilt(field):
    """A field to which nothing was done but putting in, taking away and tying, with all the same."""
    other = Field()
    for cell in range(field.coming()):
        if field.stands(cell):
            other.put(field.rank(cell), field.border(cell))
        else:
            other.take(other.put(0, []))
    for low, high in field.arrows():
        other.tie(low, high)
    return other


def rounds_of(field, rank):
    """Sums of cells of the rank whose borders are nothing: all others are added of these."""
    cleared, rounds = {}, []
    for cell in field.of_rank(rank):
        border, row = set(field.border(cell)), {cell}
        while border and max(border) in cleared:
            other_border, other_row = cleared[max(border)]
            border, row = border ^ other_border, row ^ other_row
        if border:
            cleared[max(border)] = border, row
        else:
            rounds.append(row)
    return rounds


def some_deed(chance, field):
    """Put in, take away, tie or untie something, or try to."""
    cells = field.cells()
    choice = chance.randrange(20)
    if choice < 6 and len(cells) < 30 or not cells:
        rank = chance.choice([0, 0, 1, 1, 1, 2, 2, 3])
        border = set()
        for row in rounds_of(field, rank - 1):
            if chance.randrange(3) == 0:
                border ^= row
        field.put(rank, sorted(border))
    elif choice < 7:
        field.take(chance.choice(cells))
    elif choice < 19:
        low = chance.choice(cells)
        field.tie(low, chance.choice(field.over(low) or cells))
    else:
        field.untie(chance.choice(field.tails() or cells))


def any_deed(chance, field):
    """One of the eight deeds of point 28, with values that may be refused."""
    cells, tails = field.cells() + [-1, field.coming()], field.tails() + [0]
    low, tail, rank = chance.choice(cells), chance.choice(tails), chance.choice([0, 0, 1, 1, 2, -1, 12])
    high = chance.choice((field.over(low) if field.stands(low) else []) + field.lone() + cells[-1:])
    row = [cell for cell in field.of_rank(rank) if chance.randrange(2)]
    border = chance.choice([[], field.border_of(row), [low], [low, high]])
    return chance.choice([
        ("put", rank, border), ("take", low), ("tie", low, high), ("tie", low, high), ("untie", tail), ("untie", low),
        ("cancel", high, low), ("cancel", high, low), ("fold", tail), ("fold", low), ("grow", rank, row),
        ("grow", rank, border), ("settle",)])


def done_to(field, what):
    """What the def or method of the deed's name tells, when it is done to a field."""
    name, *values = what
    if name in ("put", "take", "tie", "untie"):
        return getattr(field, name)(*values)
    return {"settle": settle, "cancel": cancel, "fold": fold, "grow": grow}[name](field, *values)


def some_field(seed, deeds=150):
    """A field of many deeds, the same for the same seed."""
    chance = random.Random(seed)
    field = Field()
    for _ in range(deeds):
        with contextlib.suppress(BodyError):
            some_deed(chance, field)
    return field


def some_branches(seed):
    """Points and stretches with arrows that branch and meet again, the same for the same seed."""
    chance = random.Random(seed)
    field = Field()
    for _ in range(10):
        field.put(0, [])
    tails = chance.sample(range(10), 7)
    for place, tail in enumerate(tails):
        later = [cell for cell in range(10) if cell not in tails[:place + 1] and chance.randrange(2)]
        if chance.randrange(2):
            field.take(field.put(0, []))
        field.tie(tail, field.put(1, sorted(later + [tail])))
    for _ in range(3):
        field.put(1, [cell for cell in range(10) if chance.randrange(2)])
    for row in rounds_of(field, 1):
        field.put(2, sorted(row))
    return field


def settled_fields():
    """Fields of several shapes, settled by hand."""
    shapes = [triangle(Field), row_of_points(6), closed_row(1), closed_row(7), full_field(4), full_field(5),
              grid(1, 1), grid(2, 3), with_gaps(full_field(4)), with_gaps(grid(3, 3))]
    return [settled(field) for field in shapes]


def retied(field):
    """Arrows untied by and by, and others tied instead."""
    for count, low in enumerate(field.tails()):
        if count % 2 == 0:
            field.untie(low)
    for high in reversed(field.cells()):
        for low in reversed(field.border(high)):
            with contextlib.suppress(BodyError):
                field.tie(low, high)
    return field


def many_fields():
    """Fields of many shapes, with and without arrows."""
    bare = [Field(), triangle(Field), full_field(4), with_gaps(grid(2, 2))]
    by_hand = [tied_row(5), fan(6), with_gaps(tied_row(6)), with_gaps(fan(5))]
    return bare + by_hand + settled_fields() + [retied(field) for field in settled_fields()] + [
        some_field(seed) for seed in range(40)] + [some_branches(seed) for seed in range(20)]


def some_sums(cells, chance, count=12):
    """Nothing, all, each cell, and sums of some of the cells."""
    rows = [[], list(cells)] + [[cell] for cell in cells]
    for _ in range(count):
        rows.append([cell for cell in cells if chance.randrange(2)])
    return rows


def steps_by_words(arrows, borders, tail):
    """Point 9: each other tail in the border of the tail's head."""
    return [other for other in arrows if other != tail and other in borders[arrows[tail]]]


def roads_by_words(field, high, low):
    """Point 13: all roads, listed."""
    found, begun = [], [[high]]
    while begun:
        road = begun.pop()
        for cell in field.border(road[-1]):
            if cell == low:
                found.append(road + [cell])
            elif field.head_of(cell) is not None and cell not in road:
                begun.append(road + [cell, field.head_of(cell)])
    return sorted(found)


def filler_by_words(field, row):
    """Point 14: the fillers of the cells, added."""
    told_so_far = {}

    def of_cell(cell):
        if cell not in told_so_far:
            filler = set()
            head = field.head_of(cell)
            if head is not None:
                filler = {head}
                for other in field.border(head):
                    if other != cell:
                        filler = filler ^ of_cell(other)
            told_so_far[cell] = filler
        return told_so_far[cell]

    filler = set()
    for cell in row:
        filler = filler ^ of_cell(cell)
    return sorted(filler)
