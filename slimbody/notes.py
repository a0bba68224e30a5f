"""Texts: sums and fields written and read."""

from slimbody.errors import BadRow, BodyError
from slimbody.field import Field
from slimbody.sums import is_sum, must_be_sum

MOST_FIGURES = 9


def shown_sum(row):
    """Tell how a sum is written."""
    must_be_sum(row)
    if not row:
        return "-"
    return "+".join([str(number) for number in row])


def read_sum(line):
    """Tell the sum that is written so."""
    if line == "-":
        return []
    row = [read_number(word) for word in line.split("+")]
    if not is_sum(row):
        raise BadRow()
    return row


def read_number(word):
    """Tell the number that is written so."""
    if not word.isascii() or not word.isdigit() or len(word) > MOST_FIGURES:
        raise BadRow()
    if word[0] == "0" and word != "0":
        raise BadRow()
    return int(word)


def written(field):
    """Tell the rows that a field is written as."""
    rows = [f"next {field.coming()}"]
    for cell in field.cells():
        rows.append(f"cell {cell} {field.rank(cell)} {shown_sum(field.border(cell))}")
    for low, high in field.arrows():
        rows.append(f"arrow {low} {high}")
    return rows


def read_field(lines):
    """Tell the field that is written so."""
    if not lines:
        raise BadRow(0)
    field = Field()
    upcoming = 0
    for place, line in enumerate(lines):
        words = line.split(" ")
        try:
            if place == 0:
                upcoming = read_next(words)
            else:
                read_row(field, upcoming, words)
        except BodyError:
            raise BadRow(place) from None
    field.skip_to(upcoming)
    return field


def read_next(words):
    """Tell the next number, by the first row."""
    if len(words) != 2 or words[0] != "next":
        raise BadRow()
    return read_number(words[1])


def read_row(field, upcoming, words):
    """Do to the field what a later row says."""
    if len(words) == 4 and words[0] == "cell":
        read_cell(field, upcoming, words)
    elif len(words) == 3 and words[0] == "arrow":
        read_arrow(field, words)
    else:
        raise BadRow()


def read_cell(field, upcoming, words):
    """Put in the cell of a row."""
    cell = read_number(words[1])
    rank = read_number(words[2])
    border = read_sum(words[3])
    # So far the field's next number is the one behind the last cell's.
    if field.tails() or cell < field.coming() or cell >= upcoming:
        raise BadRow()
    field.skip_to(cell)
    field.put(rank, border)


def read_arrow(field, words):
    """Tie the arrow of a row."""
    low = read_number(words[1])
    high = read_number(words[2])
    tails = field.tails()
    if tails and low <= tails[-1]:
        raise BadRow()
    field.tie(low, high)
