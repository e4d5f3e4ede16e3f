"""Points 9 to 13, 15 and 34: at which bits members lie, by both conventions."""

import unittest

from fieldberth.layouts import struct, union

S1 = ("int", 1, True)
I1 = ("int", 1, False)
I2 = ("int", 2, False)
I4 = ("int", 4, False)
I8 = ("int", 8, False)


def run(first, many):
    return tuple(range(first, first + many))


class Case(unittest.TestCase):
    def lies(self, members, size, alignment, places, make=struct, **options):
        """A layout with little ends has this size and alignment, and its integers these first bits and widths."""
        layout = make(members, **options)
        self.assertEqual((layout.size, layout.alignment), (size, alignment))
        told = [(layout.berth(path)[0][0], len(layout.berth(path)[0])) for path in layout.paths()]
        self.assertEqual(told, places)
        for path in layout.paths():
            bits = layout.berth(path)[0]
            self.assertEqual(bits, run(bits[0], len(bits)))
        filled = {bit for first, many in places for bit in run(first, many)}
        self.assertEqual(layout.holes(), [bit for bit in range(8 * size) if bit not in filled])


class BitsTest(unittest.TestCase):
    def test_whole_integers(self):
        for size in (1, 2, 4, 8):
            for signed in (False, True):
                members = [("p", I1), ("a", ("int", size, signed))]
                little = struct(members, pack=1)
                self.assertEqual(little.berth(("a",)), (run(8, 8 * size), signed))
                big = struct(members, pack=1, ends="big")
                octets = [run(8 * octet, 8) for octet in range(size, 0, -1)]
                self.assertEqual(big.berth(("a",)), (tuple(bit for octet in octets for bit in octet), signed))

    def test_signed_or_not_lies_at_the_same_bits(self):
        for ends in ("little", "big"):
            one = struct([("a", ("int", 4, True), 11), ("b", ("int", 2, True))], ends=ends)
            two = struct([("a", ("int", 4, False), 11), ("b", ("int", 2, False))], ends=ends)
            for path in one.paths():
                self.assertEqual(one.berth(path), (two.berth(path)[0], True))
                self.assertIs(two.berth(path)[1], False)

    def test_little_bit_fields_go_up(self):
        layout = struct([("a", I2, 3), ("b", I2, 7), ("c", I2, 6)])
        self.assertEqual([layout.berth(path)[0] for path in layout.paths()], [run(0, 3), run(3, 7), run(10, 6)])

    def test_big_bit_fields_come_from_the_greatest_bit_of_each_octet(self):
        layout = struct([("a", I1, 1), ("b", I1, 2), ("c", I1, 5)], ends="big")
        self.assertEqual([layout.berth(path)[0] for path in layout.paths()], [(7,), (5, 6), (0, 1, 2, 3, 4)])
        layout = struct([("a", I2, 7), ("b", I2, 3), ("c", I2, 6)], ends="big")
        self.assertEqual([layout.berth(path)[0] for path in layout.paths()],
                         [(1, 2, 3, 4, 5, 6, 7), (14, 15, 0), (8, 9, 10, 11, 12, 13)])

    def test_big_fields_in_units_of_msvc(self):
        layout = struct([("a", I4, 3), ("b", I4, 10), ("c", I1, 2)], ends="big", convention="msvc")
        self.assertEqual([layout.berth(path)[0] for path in layout.paths()],
                         [(5, 6, 7), (11, 12, 13, 14, 15, 0, 1, 2, 3, 4), (38, 39)])
        self.assertEqual(layout.size, 8)

    def test_big_fields_in_unions(self):
        for convention in ("sysv", "msvc"):
            layout = union([("a", I4, 3), ("b", I4, 9), ("c", I2)], ends="big", convention=convention)
            self.assertEqual([layout.berth(path)[0] for path in layout.paths()],
                             [(5, 6, 7), (15, 0, 1, 2, 3, 4, 5, 6, 7), run(8, 8) + run(0, 8)])


class SystemVStructTest(Case):
    def test_members_are_aligned(self):
        self.lies([("a", I1), ("b", I4), ("c", I1), ("d", I2), ("e", I8), ("f", S1)], 32, 8,
                  [(0, 8), (32, 32), (64, 8), (80, 16), (128, 64), (192, 8)])

    def test_arrays(self):
        self.lies([("a", I1), ("b", ("array", I2, 3)), ("c", I1)], 10, 2,
                  [(0, 8), (16, 16), (32, 16), (48, 16), (64, 8)])

    def test_arrays_of_nothing_count(self):
        self.lies([("a", I1), ("b", ("array", I4, 0)), ("c", I1)], 8, 4, [(0, 8), (32, 8)])
        self.lies([("b", ("array", I8, 0))], 0, 8, [])
        self.lies([("b", ("array", I4, 0))], 0, 2, [], pack=2)

    def test_empty_layouts_count(self):
        self.lies([("a", I1), ("e", struct([], align=16)), ("c", I1)], 32, 16, [(0, 8), (128, 8)])
        self.lies([("a", I1), (None, struct([], align=16))], 16, 16, [(0, 8)])
        self.lies([("a", I1), ("e", struct([], align=16)), ("c", I1)], 4, 2, [(0, 8), (16, 8)], pack=2)

    def test_nothing_at_all(self):
        self.lies([], 0, 1, [])
        self.lies([], 0, 32, [], align=32)
        self.lies([], 0, 1, [], pack=8)
        self.lies([(None, I4, 0)], 0, 1, [])

    def test_fields_go_on_in_the_unit(self):
        self.lies([("a", I4, 3), ("b", I4, 29)], 4, 4, [(0, 3), (3, 29)])
        self.lies([("a", I4, 3), ("b", I4, 30)], 8, 4, [(0, 3), (32, 30)])
        self.lies([("a", I4, 32), ("b", I4, 1)], 8, 4, [(0, 32), (32, 1)])

    def test_fields_of_unlike_kinds(self):
        self.lies([("a", I1, 3), ("b", I4, 20), ("c", I1, 5)], 4, 4, [(0, 3), (3, 20), (24, 5)])
        self.lies([("a", I8, 40), ("b", I4, 24)], 8, 8, [(0, 40), (40, 24)])
        self.lies([("a", I4, 20), ("b", I2, 16)], 8, 4, [(0, 20), (32, 16)])
        self.lies([("a", I4, 15), ("b", I1, 2)], 4, 4, [(0, 15), (16, 2)])
        self.lies([("a", I2, 15), ("b", I8, 49)], 8, 8, [(0, 15), (15, 49)])
        self.lies([("a", I2, 15), ("b", I8, 50)], 16, 8, [(0, 15), (64, 50)])

    def test_fields_beside_whole_members(self):
        self.lies([("a", I1), ("b", I4, 24), ("c", I1)], 8, 4, [(0, 8), (8, 24), (32, 8)])
        self.lies([("a", I1), ("b", I4, 25)], 8, 4, [(0, 8), (32, 25)])
        self.lies([("a", I4, 3), ("b", I1)], 4, 4, [(0, 3), (8, 8)])
        self.lies([("a", I4, 9), ("b", I2)], 4, 4, [(0, 9), (16, 16)])

    def test_fields_without_a_name(self):
        self.lies([("a", I1, 3), (None, I4, 4), ("b", I1, 1)], 1, 1, [(0, 3), (7, 1)])
        self.lies([(None, I4, 5)], 1, 1, [])
        self.lies([(None, I4, 32), ("b", I1)], 5, 1, [(32, 8)])
        self.lies([("a", I1), (None, I4, 25), ("b", I1)], 9, 1, [(0, 8), (64, 8)])

    def test_fields_of_no_bits(self):
        self.lies([("a", I1, 3), (None, I4, 0), ("b", I1, 3)], 5, 1, [(0, 3), (32, 3)])
        self.lies([("a", I1, 3), (None, I1, 0), ("b", I1, 3)], 2, 1, [(0, 3), (8, 3)])
        self.lies([("a", I1, 8), (None, I1, 0), (None, I1, 0), ("b", I1, 3)], 2, 1, [(0, 8), (8, 3)])
        self.lies([("x", I1), (None, ("int", 4, True), 0)], 4, 1, [(0, 8)])
        self.lies([(None, I8, 0), ("x", I1), (None, I8, 0), ("y", I1)], 9, 1, [(0, 8), (64, 8)])

    def test_the_least_size_of_odd_bits(self):
        self.lies([("a", I8, 33)], 8, 8, [(0, 33)])
        self.lies([("a", I1, 1)], 1, 1, [(0, 1)])
        self.lies([("a", I4, 17), (None, I1, 3)], 4, 4, [(0, 17)])

    def test_pack(self):
        members = [("a", I1), ("b", I4), ("c", I8), ("d", I2)]
        self.lies(members, 15, 1, [(0, 8), (8, 32), (40, 64), (104, 16)], pack=1)
        self.lies(members, 16, 2, [(0, 8), (16, 32), (48, 64), (112, 16)], pack=2)
        self.lies(members, 20, 4, [(0, 8), (32, 32), (64, 64), (128, 16)], pack=4)
        for pack in (None, 8, 16):
            self.lies(members, 24, 8, [(0, 8), (32, 32), (64, 64), (128, 16)], pack=pack)

    def test_packed_fields_lie_anywhere(self):
        members = [("a", I4, 3), ("b", I4, 30), ("c", I1, 7), ("d", I2, 9)]
        self.lies(members, 7, 1, [(0, 3), (3, 30), (33, 7), (40, 9)], pack=1)
        self.lies(members, 8, 2, [(0, 3), (3, 30), (33, 7), (40, 9)], pack=2)
        self.lies(members, 8, 4, [(0, 3), (3, 30), (33, 7), (40, 9)], pack=16)
        self.lies(members, 12, 4, [(0, 3), (32, 30), (64, 7), (71, 9)])

    def test_packed_fields_of_no_bits(self):
        members = [("a", I1, 3), (None, I4, 0), ("b", I1, 3)]
        self.lies(members, 2, 1, [(0, 3), (8, 3)], pack=1)
        self.lies(members, 3, 1, [(0, 3), (16, 3)], pack=2)
        self.lies(members, 5, 1, [(0, 3), (32, 3)], pack=8)

    def test_align(self):
        self.lies([("a", I2)], 2, 2, [(0, 16)], align=1)
        self.lies([("a", I2)], 8, 8, [(0, 16)], align=8)
        self.lies([("a", I2)], 32, 32, [(0, 16)], align=32)
        self.lies([("a", I1), ("b", I8)], 16, 16, [(0, 8), (8, 64)], pack=1, align=16)
        self.lies([("a", I1), ("b", I4)], 6, 2, [(0, 8), (8, 32)], pack=1, align=2)


class MsvcStructTest(Case):
    def lies(self, members, size, alignment, places, **options):
        Case.lies(self, members, size, alignment, places, convention="msvc", **options)

    def test_members_are_aligned(self):
        self.lies([("a", I1), ("b", I4), ("c", I1), ("d", I2), ("e", I8), ("f", S1)], 32, 8,
                  [(0, 8), (32, 32), (64, 8), (80, 16), (128, 64), (192, 8)])

    def test_nothing_at_all(self):
        self.lies([], 0, 1, [])
        self.lies([], 0, 32, [], align=32)
        self.lies([(None, I4, 0)], 0, 1, [])
        self.lies([("b", ("array", I8, 0))], 0, 8, [])

    def test_fields_of_kinds_of_the_same_size_share_a_unit(self):
        self.lies([("a", I4, 3), ("b", ("int", 4, True), 29)], 4, 4, [(0, 3), (3, 29)])
        self.lies([("a", I4, 3), ("b", I4, 30)], 8, 4, [(0, 3), (32, 30)])
        self.lies([("a", I4, 3), ("b", I4, 30), ("c", I4, 2), ("d", I4, 1)], 12, 4,
                  [(0, 3), (32, 30), (62, 2), (64, 1)])

    def test_fields_of_kinds_of_unlike_sizes_do_not(self):
        self.lies([("a", I4, 3), ("b", I1, 2), ("c", I1, 6)], 8, 4, [(0, 3), (32, 2), (34, 6)])
        self.lies([("a", I1, 3), ("b", I4, 2), ("c", I1, 2)], 12, 4, [(0, 3), (32, 2), (64, 2)])
        self.lies([("a", I2, 3), ("b", I8, 2)], 16, 8, [(0, 3), (64, 2)])

    def test_a_unit_is_taken_whole(self):
        self.lies([("a", I4, 3), ("b", I1)], 8, 4, [(0, 3), (32, 8)])
        self.lies([("a", I1), ("b", I4, 3), ("c", I4, 4), ("d", I1)], 12, 4, [(0, 8), (32, 3), (35, 4), (64, 8)])
        self.lies([("a", I8, 1)], 8, 8, [(0, 1)])

    def test_only_the_member_directly_ahead_counts(self):
        self.lies([("a", I1, 3), ("x", I1), ("b", I1, 3)], 3, 1, [(0, 3), (8, 8), (16, 3)])
        self.lies([("a", I1, 3), ("x", ("array", I1, 0)), ("b", I1, 3)], 2, 1, [(0, 3), (8, 3)])
        self.lies([("a", I1, 3), (None, struct([])), ("b", I1, 3)], 2, 1, [(0, 3), (8, 3)])
        self.lies([("a", I1), ("b", I1, 3)], 2, 1, [(0, 8), (8, 3)])

    def test_fields_without_a_name(self):
        self.lies([("a", I2, 3), (None, I2, 4), ("b", I2, 9)], 2, 2, [(0, 3), (7, 9)])
        self.lies([("a", I1), (None, I4, 4), ("b", I1)], 12, 4, [(0, 8), (64, 8)])
        self.lies([(None, I4, 5)], 4, 4, [])
        self.lies([(None, I4, 5), ("b", I4, 27)], 4, 4, [(5, 27)])

    def test_fields_of_no_bits(self):
        self.lies([("a", I1, 3), (None, I1, 0), ("b", I1, 3)], 2, 1, [(0, 3), (8, 3)])
        self.lies([("a", I1, 3), (None, I8, 0), ("b", I1, 3)], 2, 1, [(0, 3), (8, 3)])
        self.lies([("a", I1, 3), (None, I1, 0), (None, I2, 0), ("b", I1, 3)], 2, 1, [(0, 3), (8, 3)])
        self.lies([("x", I1), (None, ("int", 4, True), 0)], 1, 1, [(0, 8)])
        self.lies([("x", I1), (None, I4, 0), ("y", I1)], 2, 1, [(0, 8), (8, 8)])
        self.lies([(None, I4, 0), ("y", I2, 3)], 2, 2, [(0, 3)])

    def test_pack(self):
        members = [("a", I1), ("b", I4), ("c", I8), ("d", I2)]
        self.lies(members, 15, 1, [(0, 8), (8, 32), (40, 64), (104, 16)], pack=1)
        self.lies(members, 16, 2, [(0, 8), (16, 32), (48, 64), (112, 16)], pack=2)
        self.lies(members, 24, 8, [(0, 8), (32, 32), (64, 64), (128, 16)], pack=16)

    def test_packed_units(self):
        members = [("x", I1), ("a", I4, 3), ("b", I4, 30), ("c", I1, 7)]
        self.lies(members, 10, 1, [(0, 8), (8, 3), (40, 30), (72, 7)], pack=1)
        self.lies(members, 12, 2, [(0, 8), (16, 3), (48, 30), (80, 7)], pack=2)
        self.lies(members, 16, 4, [(0, 8), (32, 3), (64, 30), (96, 7)], pack=4)

    def test_align(self):
        self.lies([("a", I2, 3)], 8, 8, [(0, 3)], align=8)
        self.lies([("a", I1), ("b", I8)], 16, 16, [(0, 8), (8, 64)], pack=1, align=16)


class UnionTest(Case):
    def test_members_begin_at_the_beginning(self):
        for convention in ("sysv", "msvc"):
            self.lies([("a", I1), ("b", I4), ("c", ("array", I2, 3))], 8, 4,
                      [(0, 8), (0, 32), (0, 16), (16, 16), (32, 16)], make=union, convention=convention)

    def test_nothing_at_all(self):
        for convention in ("sysv", "msvc"):
            self.lies([], 0, 1, [], make=union, convention=convention)
            self.lies([], 0, 16, [], make=union, convention=convention, align=16)
            self.lies([(None, I8, 0)], 0, 1, [], make=union, convention=convention)
            self.lies([("a", ("array", I8, 0)), ("b", struct([], align=4))], 0, 8, [], make=union,
                      convention=convention)

    def test_fields_by_system_v(self):
        self.lies([("a", I4, 3)], 4, 4, [(0, 3)], make=union)
        self.lies([("a", I4, 3)], 1, 1, [(0, 3)], make=union, pack=1)
        self.lies([("a", I4, 9), ("b", I1, 2)], 2, 1, [(0, 9), (0, 2)], make=union, pack=1)
        self.lies([("a", I8, 33)], 6, 2, [(0, 33)], make=union, pack=2)
        for bits in range(1, 65):
            self.lies([("a", I8, bits)], (bits + 7) // 8, 1, [(0, bits)], make=union, pack=1)
        self.lies([(None, I4, 17), ("b", I1)], 3, 1, [(0, 8)], make=union)
        self.lies([(None, I4, 0), ("b", I1)], 1, 1, [(0, 8)], make=union)

    def test_fields_by_msvc(self):
        self.lies([("a", I4, 3)], 4, 4, [(0, 3)], make=union, convention="msvc")
        self.lies([("a", I4, 3)], 4, 1, [(0, 3)], make=union, convention="msvc", pack=1)
        for bits in range(1, 33):
            self.lies([("a", I4, bits)], 4, 4, [(0, bits)], make=union, convention="msvc")
        self.lies([(None, I4, 17), ("b", I1)], 4, 4, [(0, 8)], make=union, convention="msvc")
        self.lies([(None, I8, 0), ("b", I1)], 1, 1, [(0, 8)], make=union, convention="msvc")

    def test_options(self):
        members = [("a", I8), ("b", ("array", I1, 9))]
        places = [(0, 64)] + [(8 * k, 8) for k in range(9)]
        for convention in ("sysv", "msvc"):
            self.lies(members, 16, 8, places, make=union, convention=convention)
            self.lies(members, 9, 1, places, make=union, convention=convention, pack=1)
            self.lies(members, 10, 2, places, make=union, convention=convention, pack=2)
            self.lies(members, 32, 32, places, make=union, convention=convention, align=32)
            self.lies(members, 12, 4, places, make=union, convention=convention, pack=1, align=4)


class WithinTest(Case):
    def test_layouts_keep_their_own_size_and_alignment(self):
        inner = struct([("x", I1), ("y", I4)])
        for convention in ("sysv", "msvc"):
            self.lies([("a", I1), ("in", inner), ("z", I1)], 16, 4, [(0, 8), (32, 8), (64, 32), (96, 8)],
                      convention=convention)
            self.lies([("a", I1), ("in", inner), ("z", I1)], 10, 1, [(0, 8), (8, 8), (40, 32), (72, 8)],
                      convention=convention, pack=1)

    def test_layouts_keep_their_own_pack(self):
        inner = struct([("x", I1), ("y", I4)], pack=1)
        self.lies([("a", I2), ("in", inner), ("z", I2)], 10, 2, [(0, 16), (16, 8), (24, 32), (64, 16)])

    def test_layouts_keep_their_own_align(self):
        inner = struct([("x", I1)], align=8)
        self.lies([("a", I1), ("in", ("array", inner, 2))], 24, 8, [(0, 8), (64, 8), (128, 8)])
        self.lies([("a", I1), ("in", inner), ("z", I1)], 12, 2, [(0, 8), (16, 8), (80, 8)], pack=2)

    def test_layouts_keep_their_own_convention(self):
        fields = [("x", I4, 3), ("y", I1, 5)]
        sysv, msvc = struct(fields), struct(fields, convention="msvc")
        members = [("a", I4, 1), ("s", sysv), ("m", msvc), ("b", I4, 1)]
        self.lies(members, 20, 4, [(0, 1), (32, 3), (35, 5), (64, 3), (96, 5), (128, 1)])
        self.lies(members, 20, 4, [(0, 1), (32, 3), (35, 5), (64, 3), (96, 5), (128, 1)], convention="msvc")

    def test_layouts_keep_their_own_ends(self):
        fields = [("x", I2, 3), ("y", I2)]
        little, big = struct(fields), struct(fields, ends="big")
        for ends in ("little", "big"):
            layout = struct([("l", little), (None, big), ("a", ("array", little, 1))], ends=ends)
            self.assertEqual(layout.ends, ends)
            self.assertEqual([layout.berth(path)[0] for path in layout.paths()],
                             [run(0, 3), run(16, 16), (37, 38, 39), run(56, 8) + run(48, 8), run(64, 3), run(80, 16)])

    def test_arrays_have_the_ends_of_their_layout(self):
        layout = struct([("a", ("array", ("array", I2, 2), 2))], ends="big")
        self.assertEqual([layout.berth(path)[0] for path in layout.paths()],
                         [run(8, 8) + run(0, 8), run(24, 8) + run(16, 8), run(40, 8) + run(32, 8),
                          run(56, 8) + run(48, 8)])

    def test_fields_do_not_go_on_within_the_next_layout(self):
        inner = struct([("x", I1, 3)])
        for convention in ("sysv", "msvc"):
            self.lies([("a", I1, 3), (None, inner), ("b", I1, 3)], 3, 1, [(0, 3), (8, 3), (16, 3)],
                      convention=convention)

    def test_anonymous_layouts(self):
        inner = union([("x", I4), (None, struct([("y", I1), ("z", I2)]))])
        self.lies([("a", I1), (None, inner), ("b", I1)], 12, 4, [(0, 8), (32, 32), (32, 8), (48, 16), (64, 8)])

    def test_the_whole_of_a_layout_is_aligned_in_arrays(self):
        inner = struct([("x", I4), ("y", I1)])
        self.lies([("a", ("array", inner, 2)), ("b", I1)], 20, 4, [(0, 32), (32, 8), (64, 32), (96, 8), (128, 8)])


class ExamplesTest(unittest.TestCase):
    """The examples of point 15, word for word."""

    def test_size_alignment_and_octet(self):
        members = [("a", ("int", 4, True), 3), ("b", ("int", 1, False))]
        layout = struct([("a", ("int", 4, True), 3), ("b", ("int", 1, False))])
        self.assertEqual(layout.size, 4)
        self.assertEqual(layout.alignment, 4)
        self.assertEqual(layout.octet_at(("b",)), 1)
        layout = struct(members, convention="msvc")
        self.assertEqual((layout.size, layout.alignment, layout.octet_at(("b",))), (8, 4, 4))

    def test_berths_with_big_ends(self):
        layout = struct([("a", ("int", 2, False), 3), ("b", ("int", 2, False), 13)], ends="big")
        self.assertEqual(layout.berth(("a",)), ((5, 6, 7), False))
        self.assertEqual(layout.berth(("b",)), ((8, 9, 10, 11, 12, 13, 14, 15, 0, 1, 2, 3, 4), False))

    def test_the_example_of_point_13(self):
        layout = struct([("x", ("int", 1, False)), (None, ("int", 4, True), 0)])
        self.assertEqual((layout.size, layout.alignment), (4, 1))


if __name__ == "__main__":
    unittest.main()
