"""Sums: lists of numbers that rise strictly, reckoned by evens."""

from slimbody.errors import NotASum


def is_sum(row):
    """Tell whether the list of numbers rises strictly."""
    return all(low < high for low, high in zip(row, row[1:]))


def must_be_sum(row):
    """Refuse a list that is no sum."""
    if not is_sum(row):
        raise NotASum("the numbers do not rise strictly")


def added(one, other):
    """Tell the two sums added by evens."""
    must_be_sum(one)
    must_be_sum(other)
    return sorted(set(one) ^ set(other))


def total(rows):
    """Tell all sums of a list added by evens."""
    odd = set()
    for row in rows:
        must_be_sum(row)
        for number in row:
            if number in odd:
                odd.discard(number)
            else:
                odd.add(number)
    return sorted(odd)


def evenly(one, other):
    """Tell whether the count of numbers that both sums have is even."""
    must_be_sum(one)
    must_be_sum(other)
    return len(set(one) & set(other)) % 2 == 0
