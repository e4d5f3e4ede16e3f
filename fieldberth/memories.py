"""Memories: rows of octets that are read, written and moved."""

from fieldberth.basics import is_whole
from fieldberth.errors import BadAddress, BadOctet, BadSize


class Memory:
    """A memory of some octets."""

    def __init__(self, octets):
        if is_whole(octets):
            self.cells = [0] * octets
        else:
            self.cells = checked_octets(octets)

    def __len__(self):
        return len(self.cells)

    def __iter__(self):
        return iter(self.cells)

    def __getitem__(self, at):
        if not is_address(at, len(self.cells)):
            raise BadAddress(at)
        return self.cells[at]

    def __setitem__(self, at, worth):
        if not is_address(at, len(self.cells)):
            raise BadAddress(at)
        if not is_octet(worth):
            raise BadOctet(worth)
        self.cells[at] = worth

    def octets(self):
        """Return the list of all octets."""
        return list(self.cells)

    def move(self, to, source, many):
        """Put many octets from source on at to and on, all being read first."""
        if not has_room(to, many, len(self.cells)):
            raise BadAddress(to)
        if not has_room(source, many, len(self.cells)):
            raise BadAddress(source)
        self.cells[to:to + many] = self.cells[source:source + many]


def is_octet(value):
    """Tell whether an object is an integer from 0 to 255."""
    return is_whole(value) and 0 <= value <= 255


def is_address(value, length):
    """Tell whether an object is the place of one of so many octets."""
    return is_whole(value) and 0 <= value < length


def has_room(start, many, length):
    """Tell whether many octets from start on are within a memory of that length."""
    return start >= 0 and start + many <= length


def checked_octets(octets):
    """Return a new list of octets; raise BadOctet for the first thing that is none."""
    for value in octets:
        if not is_octet(value):
            raise BadOctet(value)
    return list(octets)


def sized_octets(octets, size):
    """Return a new list of octets; raise BadOctet, then BadSize if there are not so many."""
    checked = checked_octets(octets)
    if len(checked) != size:
        raise BadSize(len(checked))
    return checked
