"""Views: what a memory holds, read and written as a layout or an array kind says.

A SPOT is (kind, position, ends) as in fieldberth.layouts; here its position is counted from the beginning of
the memory.
"""

from fieldberth.basics import bits_of, is_whole, number_of
from fieldberth.errors import BadAddress, BadKind, BadPath, BadSize, BadValue
from fieldberth.layouts import Layout, checked_kind, holds_integer, integer_bits, new_kind, next_spot, size_of, spot_at
from fieldberth.memories import has_room


class View:
    """A look at a memory, by a layout or an array kind, from an address on."""

    def __init__(self, memory, layout, address=0):
        kind = checked_kind(layout)
        if holds_integer(kind):
            raise BadKind(layout)
        size = size_of(kind)
        if not has_room(address, size, len(memory)):
            raise BadAddress(address)
        self.seen_memory = memory
        self.seen_kind = kind
        self.seen_address = address
        self.seen_size = size
        # Of an array; a part has those of the layout that it is in.
        self.seen_ends = "little"

    @property
    def memory(self):
        """The memory that is looked at."""
        return self.seen_memory

    @property
    def layout(self):
        """The layout or the array kind by which it is looked at."""
        return new_kind(self.seen_kind)

    @property
    def address(self):
        """The octet of the memory at which the view begins."""
        return self.seen_address

    @property
    def size(self):
        """The octets of the view."""
        return self.seen_size

    def read(self, path):
        """Return the value of the integer at a path."""
        return number_at(self.seen_memory, self.integer_spot(path))

    def write(self, path, value):
        """Write an integer, cut to its bits, at a path."""
        spot = self.integer_spot(path)
        if not is_whole(value):
            raise BadValue(value)
        write_number(self.seen_memory, spot, value)

    def part(self, path):
        """Return a new view of the layout or the array at a path."""
        kind, position, ends = self.spot(path)
        if holds_integer(kind):
            raise BadPath(path)
        view = View(self.seen_memory, kind, position // 8)
        view.seen_ends = ends
        return view

    def whole(self, path=()):
        """Return what is at a path: an integer, a list for an array, a dict for a layout."""
        return worth_at(self.seen_memory, self.spot(path))

    def copy_from(self, other):
        """Write the octets of another view in the place of the own ones, all being read first."""
        if other.size != self.seen_size:
            raise BadSize(other.size)
        octets = [other.memory[other.address + place] for place in range(other.size)]
        for place, octet in enumerate(octets):
            self.seen_memory[self.seen_address + place] = octet

    def spot(self, path):
        """Return the spot to which a path leads; raise BadPath."""
        kind, position, ends = spot_at(self.seen_kind, self.seen_ends, path)
        return kind, position + 8 * self.seen_address, ends

    def integer_spot(self, path):
        """Return the spot of the integer at a path; raise BadPath."""
        spot = self.spot(path)
        if not holds_integer(spot[0]):
            raise BadPath(path)
        return spot


def number_at(memory, spot):
    """Return the value of the integer at a spot of a memory."""
    kind, position, ends = spot
    bits = [(memory[bit // 8] >> (bit % 8)) & 1 for bit in integer_bits(kind, position, ends)]
    return number_of(bits, kind[2])


def write_number(memory, spot, value):
    """Write the lowest bits of a value as the integer at a spot of a memory."""
    kind, position, ends = spot
    places = integer_bits(kind, position, ends)
    for place, bit in zip(places, bits_of(value, len(places))):
        weight = 1 << (place % 8)
        others = memory[place // 8] & (255 - weight)
        memory[place // 8] = others + bit * weight


def worth_at(memory, spot):
    """Return what is at a spot of a memory, in new lists and dicts."""
    kind = spot[0]
    if holds_integer(kind):
        return number_at(memory, spot)
    if isinstance(kind, Layout):
        return {name: worth_at(memory, next_spot(spot, name)) for name in kind.spots}
    return [worth_at(memory, next_spot(spot, index)) for index in range(kind[2])]
