"""Points 9 to 14 once more: many made-up declarations, laid a second time by a slow plain reading of the document.

The declarations are plain data here: a layout is a dict {"make", "members", "options"}, so that nothing of
the package has a part in the second reading.
"""

import unittest

from fieldberth.layouts import struct, union
from tests.plain import Numbers


def made_up(numbers, depth, names):
    """A declaration as plain data; names gives names that stand nowhere else."""
    members = []
    for k in range(numbers.below(6)):
        name = "n" + str(len(names))
        names.append(name)
        integer = ("int", numbers.one_of([1, 1, 2, 2, 4, 8]), numbers.below(2) == 0)
        sort = numbers.below(10)
        if sort < 4:
            bits = numbers.below(8 * integer[1] + 1)
            members.append((None if bits == 0 or numbers.below(5) == 0 else name, integer, bits))
        elif sort < 6 or depth == 0:
            members.append((name, integer))
        elif sort == 6:
            members.append((name, ("array", integer, numbers.below(4))))
        elif sort == 7:
            members.append((name, ("array", made_up(numbers, depth - 1, names), numbers.below(3))))
        else:
            members.append((numbers.one_of([None, name]), made_up(numbers, depth - 1, names)))
    options = {
        "convention": numbers.one_of(["sysv", "msvc"]),
        "pack": numbers.one_of([None, None, None, 1, 2, 4, 8, 16]),
        "align": numbers.one_of([None, None, None, 1, 2, 4, 8, 16, 32]),
        "ends": numbers.one_of(["little", "big"]),
    }
    return {"make": numbers.one_of(["struct", "struct", "union"]), "members": members, "options": options}


def as_kind(plain):
    """The kind of the package for a plain kind."""
    if isinstance(plain, dict):
        make = struct if plain["make"] == "struct" else union
        return make([(member[0], as_kind(member[1]), *member[2:]) for member in plain["members"]], **plain["options"])
    if plain[0] == "array":
        return "array", as_kind(plain[1]), plain[2]
    return plain


def up(x, m):
    while x % m != 0:
        x += 1
    return x


def measure(plain):
    """Size and alignment of a plain kind."""
    if isinstance(plain, dict):
        return laid(plain)[:2]
    if plain[0] == "array":
        size, alignment = measure(plain[1])
        return size * plain[2], alignment
    return plain[1], plain[1]


def laid(plain):
    """Size, alignment and the positions of the members of a plain layout, by points 10 to 13."""
    options = plain["options"]
    sysv = options["convention"] == "sysv"
    positions, counting = [], [1]
    if options["align"] is not None:
        counting.append(options["align"])
    next_position, taken, ahead, left = 0, [0], None, 0
    for member in plain["members"]:
        size, alignment = measure(member[1])
        if options["pack"] is not None and options["pack"] < alignment:
            alignment = options["pack"]
        bits = member[2] if len(member) == 3 else None
        if bits is None or (bits != 0 and (member[0] is not None or not sysv)):
            counting.append(alignment)
        if plain["make"] == "union":
            positions.append(0)
            if bits is None or (bits != 0 and not sysv):
                taken.append(size)
            else:
                taken.append(up(bits, 8) // 8)
        elif bits is None:
            next_position = up(next_position, 8 * alignment)
            positions.append(next_position)
            next_position += 8 * size
            ahead = None
        elif sysv:
            units = {(next_position + bit) // (8 * size) for bit in range(bits)}
            if bits == 0 or (options["pack"] is None and len(units) == 2):
                next_position = up(next_position, 8 * alignment)
            positions.append(next_position)
            next_position += bits
        elif bits == 0:
            positions.append(next_position)
            ahead = None
        else:
            if ahead != size or left < bits:
                next_position = up(next_position, 8 * alignment) + 8 * size
                left = 8 * size
            positions.append(next_position - left)
            left -= bits
            ahead = size
    taken.append(up(next_position, 8) // 8)
    return up(max(taken), max(counting)), max(counting), positions


def bits_of(position, width, ends):
    if ends == "little":
        return tuple(position + k for k in range(width))
    positions = [position + width - 1 - k for k in range(width)]
    return tuple(8 * (q // 8) + 7 - (q - 8 * (q // 8)) for q in positions)


def integers(plain, position, ends, head):
    """What a plain kind tells: a list of (path, kind told, octet or None, bits or None, signed)."""
    if isinstance(plain, dict):
        told = []
        for member, within in zip(plain["members"], laid(plain)[2]):
            own_ends, place = plain["options"]["ends"], position + within
            if len(member) == 3:
                if member[0] is not None:
                    kind = ("bits", member[1][1], member[1][2], member[2])
                    bits = bits_of(place, member[2], own_ends)
                    told.append((head + (member[0],), kind, None, bits, member[1][2]))
            elif member[0] is not None:
                told.append((head + (member[0],), None, place // 8, None, None))
                told.extend(integers(member[1], place, own_ends, head + (member[0],)))
            else:
                told.extend(integers(member[1], place, own_ends, head))
        return told
    if plain[0] == "array":
        told = []
        for index in range(plain[2]):
            place = position + 8 * measure(plain[1])[0] * index
            told.append((head + (index,), None, place // 8, None, None))
            told.extend(integers(plain[1], place, ends, head + (index,)))
        return told
    return [(head, plain, position // 8, bits_of(position, 8 * plain[1], ends), plain[2])]


class SecondReadingTest(unittest.TestCase):
    def agree(self, plain):
        layout = as_kind(plain)
        size, alignment, positions = laid(plain)
        self.assertEqual((layout.size, layout.alignment), (size, alignment), plain)
        told = integers(plain, 0, None, ())
        self.assertEqual(layout.paths(), [row[0] for row in told if row[3] is not None], plain)
        filled = set()
        for path, kind, octet, bits, signed in told:
            if kind is not None:
                self.assertEqual(layout.kind_at(path), kind, plain)
            if octet is not None:
                self.assertEqual(layout.octet_at(path), octet, plain)
            if bits is not None:
                self.assertEqual(layout.berth(path), (bits, signed), plain)
                filled.update(bits)
        self.assertEqual(layout.holes(), [bit for bit in range(8 * size) if bit not in filled], plain)

    def test_flat_declarations(self):
        numbers = Numbers(1)
        for k in range(1500):
            self.agree(made_up(numbers, 0, []))

    def test_layouts_within_layouts(self):
        numbers = Numbers(2)
        for k in range(800):
            self.agree(made_up(numbers, 1 + k % 3, []))


if __name__ == "__main__":
    unittest.main()
