"""Rooms: a field and a journal of what was done to it."""

from slimbody.deeds import cancel, fold, grow, settle
from slimbody.errors import NothingBack
from slimbody.field import Field


class Room:
    """A room, at first with a field without cells and no deeds."""

    def __init__(self):
        self.held = Field()
        # Each deed with the field as it was ahead of it.
        self.done = []

    def deed(self, what):
        """Do a deed and tell what it tells."""
        own = own_deed(what)
        ahead = self.held.twin()
        answer = do_deed(self.held, own)
        self.done.append((own, ahead))
        return answer

    def back(self):
        """Take the last deed back and tell it."""
        if not self.done:
            raise NothingBack("there is no deed to take back")
        what, ahead = self.done.pop()
        self.held = ahead
        return what

    def journal(self):
        """Tell the deeds, the first one first."""
        return [own_deed(what) for what, ahead in self.done]

    def field(self):
        """Tell a twin of the field."""
        return self.held.twin()


def own_deed(what):
    """Tell the same deed with lists of its own."""
    return tuple([list(part) if isinstance(part, list) else part for part in what])


def do_deed(field, what):
    """Do to the field what the deed says, and tell what that tells."""
    match what:
        case ("put", rank, border):
            return field.put(rank, border)
        case ("take", cell):
            return field.take(cell)
        case ("tie", low, high):
            return field.tie(low, high)
        case ("untie", low):
            return field.untie(low)
        case ("settle",):
            return settle(field)
        case ("cancel", high, low):
            return cancel(field, high, low)
        case ("fold", low):
            return fold(field, low)
        case ("grow", rank, row):
            return grow(field, rank, row)
    raise ValueError("there is no such deed")
