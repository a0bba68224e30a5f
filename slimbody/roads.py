"""Roads between lone cells, along arrows."""

from slimbody.errors import ManyRoads


def roads(field, high, low):
    """Tell the count of roads from the high cell to the low one."""
    field.must_stand(high)
    field.must_stand(low)
    field.must_be_lone([high, low])
    return ways_to(field, ways_from(field, high), low)


def only_road(field, high, low):
    """Tell the one road from the high cell to the low one."""
    many = roads(field, high, low)
    if many != 1:
        raise ManyRoads(many)
    ways = ways_from(field, high)
    back = [low]
    upper = upper_ahead(field, ways, low)
    while upper != high:
        tail = field.tail_of(upper)
        back += [upper, tail]
        upper = upper_ahead(field, ways, tail)
    return [high] + back[::-1]


def ways_from(field, high):
    """Tell in how many ways one comes from the high cell to itself and to each head."""
    ways = {high: 1}
    # One steps to later tails alone, so that all heads from which one comes to a tail are there ahead of it,
    # and its own head is not yet there.
    for tail in field.order():
        ways[field.head_of(tail)] = ways_to(field, ways, tail)
    return ways


def ways_to(field, ways, cell):
    """Tell in how many ways one comes to a cell from the upper ones that the ways are told for."""
    return sum([ways[upper] for upper in field.over(cell) if upper in ways])


def upper_ahead(field, ways, cell):
    """Tell the upper cell from which the only road comes to a tail or to the last cell."""
    own = field.head_of(cell)
    uppers = [upper for upper in field.over(cell) if upper != own and ways.get(upper, 0) > 0]
    return uppers[0]
