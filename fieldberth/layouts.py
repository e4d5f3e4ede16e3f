"""Layouts: declarations of structures and unions, and where what they declare lies.

Within this module a member is a pair (name, kind), the kind of a bit field being
("bits", size, signed, bits). A SPOT is (kind, position, ends): where such a kind begins, and by which
ends its integers lie. A BERTH ROW is (path, bits): the path of an integer and the numbers of its bits.
"""

from fieldberth.basics import is_row, is_whole
from fieldberth.errors import BadBits, BadKind, BadMember, BadName, BadOption, BadPath
from fieldberth.placing import placed

CONVENTIONS = ("sysv", "msvc")
ENDS = ("little", "big")
PACKS = (1, 2, 4, 8, 16)
ALIGNS = (1, 2, 4, 8, 16, 32)
INTEGER_SIZES = (1, 2, 4, 8)
DIGITS = "0123456789"
NAME_SIGNS = "abcdefghijklmnopqrstuvwxyzABCDEFGHIJKLMNOPQRSTUVWXYZ0123456789_"


class Layout:
    """A structure or a union: its size, and where its members lie."""

    def __init__(self, size, alignment, convention, ends, spots, berth_rows):
        self.told_size = size
        self.told_alignment = alignment
        self.told_convention = convention
        self.told_ends = ends
        self.spots = spots
        self.berth_rows = berth_rows

    @property
    def size(self):
        """The octets of the layout."""
        return self.told_size

    @property
    def alignment(self):
        """The alignment of the layout, in octets."""
        return self.told_alignment

    @property
    def convention(self):
        """The convention by which its members lie: "sysv" or "msvc"."""
        return self.told_convention

    @property
    def ends(self):
        """The ends by which its own integers lie: "little" or "big"."""
        return self.told_ends

    def paths(self):
        """Return the list of the paths that lead to integers, as they are declared."""
        return [tuple(list(path)) for path, bits in self.berth_rows]

    def berth(self, path):
        """Return the bits of the integer at a path, from the least one on, and whether it is signed."""
        kind, position, ends = spot_at(self, self.ends, path)
        if not holds_integer(kind):
            raise BadPath(path)
        return tuple(integer_bits(kind, position, ends)), kind[2]

    def octet_at(self, path):
        """Return the octet at which that begins to which the path leads."""
        kind, position, ends = spot_at(self, self.ends, path)
        if is_bit_field(kind):
            raise BadPath(path)
        return position // 8

    def kind_at(self, path):
        """Return the kind of that to which the path leads."""
        kind, position, ends = spot_at(self, self.ends, path)
        return new_kind(kind)

    def holes(self):
        """Return the ascending list of the bits of the layout that are in no berth."""
        filled = {}
        for path, bits in self.berth_rows:
            for bit in bits:
                filled[bit] = True
        return [bit for bit in range(8 * self.size) if bit not in filled]


def struct(members, *, convention="sysv", pack=None, align=None, ends="little"):
    """Return a new layout of a structure with these members."""
    return declared(members, False, convention, pack, align, ends)


def union(members, *, convention="sysv", pack=None, align=None, ends="little"):
    """Return a new layout of a union with these members."""
    return declared(members, True, convention, pack, align, ends)


def declared(members, is_union, convention, pack, align, ends):
    """Return a new layout of checked members, each in its place."""
    check_options(convention, pack, align, ends)
    pairs = checked_members(members)
    shapes = member_shapes(pairs, pack)
    positions, size, alignment = placed(shapes, is_union, convention, pack, align)
    reached = {}
    rows = []
    for (name, kind), position in zip(pairs, positions):
        if name is not None:
            reached[name] = (kind, position, ends)
            rows.extend(moved_rows(berth_rows_of(kind, position, ends), (name,), 0))
        elif isinstance(kind, Layout):
            reached.update(moved_spots(kind.spots, position))
            rows.extend(moved_rows(kind.berth_rows, (), position))
    return Layout(size, alignment, convention, ends, reached, rows)


# Checks, in the order in which their errors come.


def check_options(convention, pack, align, ends):
    """Raise BadOption for the first option with a value that it cannot have."""
    if convention not in CONVENTIONS:
        raise BadOption("convention")
    if not is_choice(pack, PACKS):
        raise BadOption("pack")
    if not is_choice(align, ALIGNS):
        raise BadOption("align")
    if ends not in ENDS:
        raise BadOption("ends")


def is_choice(value, numbers):
    """Tell whether a value is None or one of some integers; bools, equal to some of them, are none."""
    return value is None or (is_whole(value) and value in numbers)


def checked_members(members):
    """Return the members as pairs (name, kind) that share nothing with what was passed."""
    pairs = [checked_member(member, place) for place, member in enumerate(members)]
    taken = {}
    for name, kind in pairs:
        for reached in reached_names(name, kind):
            if reached in taken:
                raise BadName(reached)
            taken[reached] = True
    return pairs


def checked_member(member, place):
    """Return a member as a pair (name, kind); raise what is wrong with it first."""
    if not is_row(member) or len(member) not in (2, 3) or not is_name(member[0]):
        raise BadMember(place)
    name = member[0]
    kind = checked_kind(member[1])
    if len(member) == 3:
        if isinstance(kind, Layout) or kind[0] != "int":
            raise BadMember(place)
        if not are_bits(member[2], kind[1], name):
            raise BadBits(place)
        return name, ("bits", kind[1], kind[2], member[2])
    if name is None and not isinstance(kind, Layout):
        raise BadMember(place)
    return name, kind


def is_name(value):
    """Tell whether an object is a name of a member, or None."""
    if value is None:
        return True
    if not isinstance(value, str) or value == "" or value[0] in DIGITS:
        return False
    return all([sign in NAME_SIGNS for sign in value])


def are_bits(value, size, name):
    """Tell whether an object is a number of bits for a bit field of a kind of so many octets."""
    if not is_whole(value) or value < 0 or value > 8 * size:
        return False
    return value > 0 or name is None


def checked_kind(kind):
    """Return a kind in tuples that share nothing with what was passed; raise BadKind."""
    if isinstance(kind, Layout):
        return kind
    if not is_row(kind) or len(kind) != 3:
        raise BadKind(kind)
    word, inner, last = kind
    if word == "int":
        if not is_whole(inner) or inner not in INTEGER_SIZES or not isinstance(last, bool):
            raise BadKind(kind)
        return "int", inner, last
    if word != "array" or not is_whole(last) or last < 0:
        raise BadKind(kind)
    return "array", checked_kind(inner), last


def reached_names(name, kind):
    """Return the names by which a member, or what is in an anonymous one, is reached."""
    if name is not None:
        return [name]
    if isinstance(kind, Layout):
        return list(kind.spots)
    return []


# What kinds are, and how much room they want.


def is_bit_field(kind):
    """Tell whether a kind is that of a bit field."""
    return not isinstance(kind, Layout) and kind[0] == "bits"


def holds_integer(kind):
    """Tell whether a kind is that of a single integer, also of a bit field."""
    return not isinstance(kind, Layout) and kind[0] != "array"


def new_kind(kind):
    """Return a kind in new tuples; a layout stands for itself."""
    if isinstance(kind, Layout):
        return kind
    if kind[0] == "array":
        return "array", new_kind(kind[1]), kind[2]
    return tuple(list(kind))


def size_of(kind):
    """Return the octets of a kind; of a bit field those of the kind that it is cut from."""
    if isinstance(kind, Layout):
        return kind.size
    if kind[0] == "array":
        return kind[2] * size_of(kind[1])
    return kind[1]


def alignment_of(kind):
    """Return the alignment of a kind, before pack is counted."""
    if isinstance(kind, Layout):
        return kind.alignment
    if kind[0] == "array":
        return alignment_of(kind[1])
    return kind[1]


def member_shapes(pairs, pack):
    """Return the shapes by which the members are placed."""
    shapes = []
    for name, kind in pairs:
        alignment = alignment_of(kind)
        if pack is not None:
            alignment = min(alignment, pack)
        bits = kind[3] if is_bit_field(kind) else None
        shapes.append((size_of(kind), alignment, bits, name is not None))
    return shapes


# Where integers lie, and what paths lead to.


def integer_bits(kind, position, ends):
    """Return the numbers of the bits of one integer at a position, from the least one on."""
    many = kind[3] if is_bit_field(kind) else 8 * kind[1]
    if ends == "little":
        return list(range(position, position + many))
    # The greatest bit is at the first position, and positions begin at the greatest bit of an octet.
    return [8 * (place // 8) + 7 - place % 8 for place in range(position + many - 1, position - 1, -1)]


def berth_rows_of(kind, position, ends):
    """Return the berth rows of all integers within a kind at a position."""
    if isinstance(kind, Layout):
        return moved_rows(kind.berth_rows, (), position)
    if kind[0] == "array":
        return array_rows(kind, position, ends)
    return [((), integer_bits(kind, position, ends))]


def array_rows(kind, position, ends):
    """Return the berth rows of all integers within an array at a position."""
    inner = berth_rows_of(kind[1], 0, ends)
    rows = []
    # Arrays of things without integers, within one another, have too many things to go through.
    if inner:
        step = 8 * size_of(kind[1])
        for index in range(kind[2]):
            rows.extend(moved_rows(inner, (index,), position + index * step))
    return rows


def moved_rows(rows, head, by):
    """Return berth rows with longer paths, and with bits that are by more."""
    return [((*head, *path), [bit + by for bit in bits]) for path, bits in rows]


def moved_spots(spots, by):
    """Return named spots whose positions are by more."""
    return {name: (kind, position + by, ends) for name, (kind, position, ends) in spots.items()}


def spot_at(kind, ends, path):
    """Return the spot to which a path leads from the beginning of a kind; raise BadPath."""
    if not is_row(path):
        raise BadPath(path)
    spot = (kind, 0, ends)
    for step in path:
        spot = next_spot(spot, step)
        if spot is None:
            raise BadPath(path)
    return spot


def next_spot(spot, step):
    """Return the spot one step further on, None if the step leads nowhere."""
    kind, position, ends = spot
    if isinstance(kind, Layout):
        if not isinstance(step, str) or step not in kind.spots:
            return None
        inner, within, inner_ends = kind.spots[step]
        return inner, position + within, inner_ends
    if kind[0] != "array" or not is_whole(step) or not 0 <= step < kind[2]:
        return None
    return kind[1], position + step * 8 * size_of(kind[1]), ends
