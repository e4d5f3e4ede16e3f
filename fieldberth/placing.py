"""Where members lie, told by their shapes alone.

A SHAPE is a tuple (size, alignment, bits, named): size and alignment (with pack already counted) of
the member's kind in octets, the bits of a bit field, else None, and whether the member has a name.
"""

from fieldberth.basics import up


def parted(position, bits, size):
    """Tell whether a bit field at a position would lie in two units of so many octets."""
    unit = 8 * size
    return position // unit != (position + bits - 1) // unit


def sysv_struct(shapes, packed):
    """Return the positions of the members by System V, and the octets that they take together."""
    positions = []
    position = 0
    for size, alignment, bits, named in shapes:
        if bits is None or bits == 0 or (not packed and parted(position, bits, size)):
            position = up(position, 8 * alignment)
        positions.append(position)
        position += 8 * size if bits is None else bits
    return positions, up(position, 8) // 8


def msvc_struct(shapes):
    """Return the positions of the members by MSVC, and the octets that they take together."""
    positions = []
    octet = 0
    # The unit directly ahead: its octets, 0 if there is none to go on in, and its bits in use.
    unit = 0
    used = 0
    for size, alignment, bits, named in shapes:
        if bits == 0:
            positions.append(8 * octet)
            unit = 0
        elif bits is not None and unit == size and used + bits <= 8 * size:
            positions.append(8 * (octet - size) + used)
            used = used + bits
        else:
            octet = up(octet, alignment)
            positions.append(8 * octet)
            octet += size
            unit = 0 if bits is None else size
            used = 0 if bits is None else bits
    return positions, octet


def taken_in_union(shape, convention):
    """Return the octets that a member takes in a union."""
    size, alignment, bits, named = shape
    if bits is None:
        return size
    if convention == "sysv":
        return up(bits, 8) // 8
    return size if bits > 0 else 0


def counts(shape, convention):
    """Tell whether the alignment of a member counts for the layout."""
    size, alignment, bits, named = shape
    if bits is None:
        return True
    return bits > 0 and (named or convention == "msvc")


def common_alignment(shapes, convention, align):
    """Return the alignment of a layout with members of these shapes."""
    least = 1 if align is None else align
    return max([least] + [shape[1] for shape in shapes if counts(shape, convention)])


def placed(shapes, is_union, convention, pack, align):
    """Return the positions of the members of a layout, its size and its alignment."""
    if is_union:
        positions = [0 for shape in shapes]
        taken = max([0] + [taken_in_union(shape, convention) for shape in shapes])
    elif convention == "sysv":
        positions, taken = sysv_struct(shapes, pack is not None)
    else:
        positions, taken = msvc_struct(shapes)
    alignment = common_alignment(shapes, convention, align)
    return positions, up(taken, alignment), alignment
