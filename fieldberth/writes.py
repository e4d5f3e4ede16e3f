"""Writes: which members lead from one memory to another one.

A MASK is an integer whose bits tell for each bit of a memory, by its number, whether it is meant.
"""

from fieldberth.basics import bits_of_octets, number_of
from fieldberth.memories import sized_octets


def least_writes(layout, old, new):
    """Return the fewest paths by whose writing one memory becomes another one, None if these differ in a hole."""
    held = number_of(bits_of_octets(sized_octets(old, layout.size)), False)
    wanted = number_of(bits_of_octets(sized_octets(new, layout.size)), False)
    unlike = held ^ wanted
    pairs = [(path, berth_mask(layout, path)) for path in sorted(layout.paths())]
    # A shortest list has no integer that is the same in both memories.
    changing = [(path, mask) for path, mask in pairs if mask & unlike]
    for many in range(len(changing) + 1):
        paths = least_cover(changing, unlike, many)
        if paths is not None:
            return paths
    return None


def berth_mask(layout, path):
    """Return the mask of the bits of the integer at a path."""
    bits, signed = layout.berth(path)
    return sum([1 << bit for bit in bits])


def least_cover(pairs, unlike, many):
    """Return the least list of just so many paths, of ascending pairs (path, mask), that cover a mask, or None."""
    if many == 0:
        return [] if unlike == 0 else None
    for place, (path, mask) in enumerate(pairs):
        # Without this the search would go through all lists where most integers share nothing.
        if not cover(pairs[place:], unlike):
            return None
        rest = least_cover(pairs[place + 1:], unlike & ~mask, many - 1)
        if rest is not None:
            return [path, *rest]
    return None


def cover(pairs, unlike):
    """Tell whether the masks of all pairs (path, mask) together cover a mask."""
    left = unlike
    for path, mask in pairs:
        left = left & ~mask
    return left == 0
