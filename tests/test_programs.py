"""Points 3, 4, 5, 19 and 20: programs, and what they make of a memory."""

import copy
import inspect
import unittest

from fieldberth import programs
from fieldberth.errors import BadOctet, BadProgram, BadSize
from fieldberth.layouts import struct, union
from fieldberth.programs import is_program, run
from tests.plain import NO_INTEGERS, as_lists, as_tuples

I1 = ("int", 1, False)
S1 = ("int", 1, True)
I2 = ("int", 2, False)
S2 = ("int", 2, True)
I4 = ("int", 4, False)
S4 = ("int", 4, True)
I8 = ("int", 8, False)
S8 = ("int", 8, True)

A, B, C, D = ("a",), ("b",), ("c",), ("d",)
PAIR = struct([("a", I2), ("b", I2)])
EMPTY = struct([])
# Octets: a 0; s 1 (3 bits, 5 bits); w 2 and 3; rows 4 to 7; in the union 8 to 11: u, h, t (12 bits) share bits.
MIXED = struct([
    ("a", S1),
    ("f", I1, 3), ("g", S1, 5),
    ("w", S2),
    ("rows", ("array", ("array", I1, 2), 2)),
    (None, union([("u", I4), ("h", ("array", S2, 2)), ("t", I2, 12), ("o", S4, 24)])),
])
OCTETS = [0x81, 0xAD, 0x34, 0x92, 5, 6, 7, 8, 0x78, 0x9A, 0xBC, 0xDE]
GOOD = [
    ("set", ("a",), 5), ("set", ("f",), -2 ** 70), ("set", ("rows", 1, 1), 2 ** 70), ("copy", ("a",), ("u",)),
    ("copy", ("f",), ("f",)), ("swap", ("g",), ("h", 1)), ("swap", ("w",), ("w",)), ("shift", ("t",), 100),
    ("shift", ("a",), -100), ("shift", ("f",), 1), ("turn", ("a",)), ("turn", ("w",)), ("turn", ("u",)), ("turn", ("o",)),
    ("move", 0, 0, 12), ("move", 11, 0, 1), ("move", 3, 5, 7), ("move", 5, 3, 7),
]
# What is no deed of MIXED.
BAD = [
    *NO_INTEGERS, 5, -1, 2 ** 70, "set", "turn", [[]], [()], {"set": 1}, MIXED, (MIXED,),
    ("set",), ("set", ("a",)), ("set", ("a",), 5, 6), ("Set", ("a",), 5), ("", ("a",), 5), (None, ("a",), 5),
    (["set"], ("a",), 5), ("set ", ("a",), 5), (True, ("a",), 5), (MIXED, ("a",), 5),
    ("set", ("a",), True), ("set", ("a",), None), ("set", ("a",), "5"), ("set", ("a",), [5]), ("set", ("a",), (5,)),
    ("set", ("a",), {}), ("set", ("a",), ("b",)), ("set", "a", 5), ("set", 5, ("a",)), ("set", (), 5), ("set", None, 5),
    ("set", ("b",), 5), ("set", ("rows",), 5), ("set", ("rows", 0), 5), ("set", ("rows", 0, 2), 5),
    ("set", ("rows", True, 0), 5), ("set", ("rows", -1, 0), 5), ("set", (None, "u"), 5), ("set", (("a",),), 5),
    ("set", ("a", "a"), 5), ("set", {"a": 1}, 5), ("set", ([],), 5), ("set", MIXED, 5), ("set", (MIXED,), 5),
    ("copy",), ("copy", ("a",)), ("copy", ("a",), ("u",), ("w",)), ("copy", ("a",), 5), ("copy", ("a",), "u"),
    ("copy", ("a",), ("rows",)), ("copy", ("rows",), ("a",)), ("copy", ("h",), ("rows", 0)), ("copy", (), ()),
    ("copy", "a", "u"), ("copy", 0, 1), ("copy", ("a",), None), ("copy", None, ("a",)), ("copies", ("a",), ("u",)),
    ("swap",), ("swap", ("a",)), ("swap", ("a",), ("u",), 1), ("swap", ("a",), ("b",)), ("swap", ("b",), ("a",)),
    ("swap", ("a",), ()), ("swap", ("a",), 0), ("swap", True, False),
    ("shift",), ("shift", ("a",)), ("shift", ("a",), 0), ("shift", ("a",), True), ("shift", ("a",), False),
    ("shift", ("a",), None), ("shift", ("a",), "1"), ("shift", ("a",), [1]), ("shift", ("a",), 1, 1), ("shift", 1, ("a",)),
    ("shift", ("rows",), 1), ("shift", ("b",), 1), ("shift", (), 1), ("shift", ("a",), ("f",)),
    ("turn",), ("turn", ("f",)), ("turn", ("g",)), ("turn", ("t",)), ("turn", ("rows", 0)), ("turn", ()), ("turn", "a"),
    ("turn", ("a",), 1), ("turn", ("a",), ("w",)), ("turn", None), ("turn", 0), ("turn", ("b",)), ("turn", [("a",)]),
    ("move",), ("move", 0), ("move", 0, 1), ("move", 0, 1, 0), ("move", 0, 1, -1), ("move", 0, 1, True),
    ("move", 0, 1, None), ("move", 0, 1, "1"), ("move", True, 0, 1), ("move", 0, False, 1), ("move", -1, 0, 1),
    ("move", 0, -1, 1), ("move", 12, 0, 1), ("move", 0, 12, 1), ("move", 1, 0, 12), ("move", 0, 1, 12), ("move", 0, 0, 13),
    ("move", 0, 0, 2 ** 70), ("move", 2 ** 70, 0, 1), ("move", 0, -2 ** 70, 1), ("move", 0, 1, 1, 1), ("move", None, 0, 1),
    ("move", ("a",), ("w",), 1), ("move", 0, "1", 1), ("move", [0], 1, 1),
]


def deep(thing, levels):
    for level in range(levels):
        thing = [thing]
    return thing


class IsProgramTest(unittest.TestCase):
    def test_deeds(self):
        for deed in GOOD:
            self.assertIs(is_program(MIXED, [deed]), True, deed)
        self.assertIs(is_program(MIXED, GOOD[:12]), True)

    def test_no_deeds(self):
        for deed in BAD:
            self.assertIs(is_program(MIXED, [deed]), False, deed)
            self.assertIs(is_program(MIXED, (GOOD[0], deed)), False, deed)
            self.assertIs(is_program(MIXED, [deed, GOOD[0]]), False, deed)

    def test_lists_and_tuples(self):
        for deed in GOOD:
            self.assertIs(is_program(MIXED, as_lists([deed])), True)
            self.assertIs(is_program(MIXED, (list(deed),)), True)
            self.assertIs(is_program(MIXED, ([as_lists(part) for part in deed],)), True)
        for deed in BAD:
            self.assertIs(is_program(MIXED, as_lists([deed])), False)
            self.assertIs(is_program(MIXED, as_tuples([deed])), False)

    def test_the_empty_program(self):
        for layout in (MIXED, PAIR, EMPTY, union([])):
            self.assertIs(is_program(layout, []), True)
            self.assertIs(is_program(layout, ()), True)

    def test_no_lists(self):
        for thing in [None, True, False, 0, 5, 2 ** 70, "", "set", "abc", {}, {0: GOOD[0]}, {"set": 1}, MIXED, GOOD[0],
                      list(GOOD[0]), GOOD[10], deep(GOOD[0], 2), deep(1, 49), deep("a", 48)]:
            self.assertIs(is_program(MIXED, thing), False, thing)

    def test_any_object_deep_within(self):
        for thing in [deep(1, 45), as_tuples(deep(None, 45)), deep({"a": deep((1,), 20)}, 20)]:
            for deed in [("set", ("a",), thing), ("set", thing, 1), ("copy", thing, thing), (thing, ("a",), 1),
                         ("turn", thing), ("move", thing, 0, 1), ("shift", ("a",), thing), ("set", ("rows", thing), 1)]:
                self.assertIs(is_program(MIXED, [deed]), False)

    def test_of_empty_layouts(self):
        for layout in (EMPTY, struct([("n", ("array", I4, 0)), ("e", ("array", EMPTY, 3))])):
            for deed in [("set", ("a",), 1), ("turn", ()), ("move", 0, 0, 1), ("move", 0, 0, 0), ("copy", (), ())]:
                self.assertIs(is_program(layout, [deed]), False)

    def test_layouts_with_holes_alone(self):
        layout = struct([(None, I2, 9)])
        self.assertIs(is_program(layout, [("move", 0, 1, 1)]), True)
        self.assertIs(is_program(layout, [("set", (None,), 1)]), False)

    def test_turns_by_the_number_of_bits(self):
        for bits in range(1, 65):
            layout = struct([("a", I8, bits)])
            self.assertIs(is_program(layout, [("turn", A)]), bits % 8 == 0)

    def test_shifts(self):
        for many in range(-100, 101):
            self.assertIs(is_program(MIXED, [("shift", ("f",), many)]), many != 0)

    def test_what_was_passed_stays(self):
        program = as_lists(GOOD)
        kept = copy.deepcopy(program)
        is_program(MIXED, program)
        run(MIXED, program, OCTETS)
        self.assertEqual(program, kept)

    def test_the_interface_is_defined_here(self):
        self.assertEqual(list(inspect.signature(is_program).parameters), ["layout", "program"])
        self.assertEqual(list(inspect.signature(run).parameters), ["layout", "program", "octets"])
        self.assertEqual((is_program.__module__, run.__module__), ("fieldberth.programs", "fieldberth.programs"))
        self.assertIs(programs.run, run)
        self.assertIs(is_program(program=[], layout=EMPTY), True)
        self.assertEqual(run(octets=[], program=[], layout=EMPTY), [])


class Case(unittest.TestCase):
    def makes(self, layout, program, octets, wanted):
        self.assertEqual(run(layout, program, octets), wanted, program)
        self.assertEqual(run(layout, as_lists(program), tuple(octets)), wanted, program)


class SetTest(Case):
    def test_whole_integers(self):
        self.makes(PAIR, [("set", A, 0x0102)], [9, 9, 9, 9], [2, 1, 9, 9])
        self.makes(PAIR, [("set", B, -2)], [9, 9, 9, 9], [9, 9, 254, 255])
        self.makes(struct([("a", I2)], ends="big"), [("set", A, 0x0102)], [9, 9], [1, 2])

    def test_cut_to_its_bits(self):
        for value in (2 ** 70, -2 ** 70, 2 ** 16, 0):
            self.makes(PAIR, [("set", A, value)], [9, 9, 9, 9], [0, 0, 9, 9])
        for value in (2 ** 70 - 1, -1, -2 ** 70 - 1, 2 ** 16 - 1):
            self.makes(PAIR, [("set", A, value)], [9, 9, 9, 9], [255, 255, 9, 9])
        wide = struct([("a", S8)])
        self.makes(wide, [("set", A, 2 ** 64 + 2 ** 63)], [1] * 8, [0] * 7 + [128])
        self.makes(wide, [("set", A, -2 ** 63 - 1)], [1] * 8, [255] * 7 + [127])

    def test_bit_fields(self):
        layout = struct([("a", I1, 3), ("b", S1, 5)])
        self.makes(layout, [("set", A, 0b1110)], [0xFF], [0xFE])
        self.makes(layout, [("set", B, 0b100001)], [0], [0b1000])
        big = struct([("a", I1, 3), ("b", S1, 5)], ends="big")
        self.makes(big, [("set", A, 0b1110)], [0], [0b11000000])
        self.makes(big, [("set", B, -1)], [0], [0b11111])


class CopyTest(Case):
    def test_same_widths(self):
        self.makes(PAIR, [("copy", A, B)], [1, 2, 3, 4], [3, 4, 3, 4])
        self.makes(PAIR, [("copy", A, A)], [1, 2, 3, 4], [1, 2, 3, 4])

    def test_to_fewer_bits(self):
        layout = struct([("a", S1), ("b", I1, 3), ("c", S4)])
        self.makes(layout, [("copy", A, C)], [1, 0, 9, 9, 0x88, 0x77, 0x66, 0x55], [0x88, 0, 9, 9, 0x88, 0x77, 0x66, 0x55])
        self.makes(layout, [("copy", B, C)], [1, 0xF8, 9, 9, 0x8D, 0, 0, 0], [1, 0xFD, 9, 9, 0x8D, 0, 0, 0])

    def test_to_more_bits_by_the_sign_of_the_source(self):
        for wide in (I4, S4):
            layout = struct([("a", wide), ("b", S1), ("c", I1), ("d", S1, 3)])
            rest = [0x80, 0x80, 0b101, 0]
            self.makes(layout, [("copy", A, B)], [1, 2, 3, 4, *rest], [0x80, 0xFF, 0xFF, 0xFF, *rest])
            self.makes(layout, [("copy", A, C)], [1, 2, 3, 4, *rest], [0x80, 0, 0, 0, *rest])
            self.makes(layout, [("copy", A, D)], [1, 2, 3, 4, *rest], [0xFD, 0xFF, 0xFF, 0xFF, *rest])
            rest = [0x7F, 0x7F, 0b011, 0]
            self.makes(layout, [("copy", A, B)], [1, 2, 3, 4, *rest], [0x7F, 0, 0, 0, *rest])
            self.makes(layout, [("copy", A, D)], [1, 2, 3, 4, *rest], [3, 0, 0, 0, *rest])

    def test_between_ends(self):
        layout = struct([("a", I2), ("in", struct([("b", I4)], ends="big"))], pack=1)
        self.makes(layout, [("copy", A, ("in", "b"))], [0, 0, 1, 2, 3, 4], [4, 3, 1, 2, 3, 4])
        self.makes(layout, [("copy", ("in", "b"), A)], [7, 8, 1, 2, 3, 4], [7, 8, 0, 0, 8, 7])

    def test_paths_that_share_bits(self):
        # c is the octets 1 and 2 of a as a signed one.
        layout = union([("a", I4), (None, struct([("p", I1), ("c", S2)], pack=1))])
        self.makes(layout, [("copy", A, C)], [1, 2, 0x83, 4], [2, 0x83, 0xFF, 0xFF])
        self.makes(layout, [("copy", C, A)], [1, 2, 3, 4], [1, 1, 2, 4])
        turned = union([("a", I2), (None, struct([("b", I2)], ends="big"))])
        self.makes(turned, [("copy", A, B)], [1, 2], [2, 1])


class SwapTest(Case):
    def test_same_widths(self):
        self.makes(PAIR, [("swap", A, B)], [1, 2, 3, 4], [3, 4, 1, 2])
        self.makes(PAIR, [("swap", B, A)], [1, 2, 3, 4], [3, 4, 1, 2])
        self.makes(PAIR, [("swap", A, A)], [1, 2, 3, 4], [1, 2, 3, 4])

    def test_unlike_widths_and_signs(self):
        layout = struct([("a", S1), ("b", I2)], pack=1)
        self.makes(layout, [("swap", A, B)], [0x80, 1, 2], [1, 0x80, 0xFF])
        self.makes(layout, [("swap", B, A)], [0x80, 1, 2], [1, 0x80, 0xFF])
        fields = struct([("a", I1, 3), ("b", S1, 5)])
        self.makes(fields, [("swap", A, B)], [0b10110_011], [0b00011_110])
        fields = struct([("a", S1, 3), ("b", S1, 5)])
        self.makes(fields, [("swap", A, B)], [0b10110_101], [0b11101_110])

    def test_what_is_written_last_stays(self):
        # b is the octets 1 and 2 of a.
        layout = union([("a", I4), (None, struct([("p", I1), ("b", I2)], pack=1))])
        # One gets the value of two first, then two that of one.
        self.makes(layout, [("swap", A, B)], [1, 2, 3, 4], [2, 1, 2, 0])
        self.makes(layout, [("swap", B, A)], [1, 2, 3, 4], [2, 3, 0, 0])
        shifted = struct([(None, union([("a", I1, 6), (None, struct([("p", I1, 3), ("b", I1, 5)]))]))])
        self.makes(shifted, [("swap", A, B)], [0b10100011], [0b00011100])
        self.makes(shifted, [("swap", B, A)], [0b10100011], [0b00010100])

    def test_of_one_berth_with_unlike_ends(self):
        turned = union([("a", I2), (None, struct([("b", I2)], ends="big"))])
        self.makes(turned, [("swap", A, B)], [1, 2], [2, 1])
        self.makes(turned, [("swap", B, A)], [1, 2], [2, 1])


class ShiftTest(Case):
    def test_up(self):
        for sort in (I1, S1):
            layout = struct([("a", sort)])
            for many in range(1, 101):
                self.makes(layout, [("shift", A, many)], [0xB5], [0xB5 << many & 0xFF])

    def test_down(self):
        for many in range(1, 101):
            self.makes(struct([("a", I1)]), [("shift", A, -many)], [0xB5], [0xB5 >> many])
            self.makes(struct([("a", S1)]), [("shift", A, -many)], [0xB5], [(0xB5 - 256 >> many) % 256])
            self.makes(struct([("a", S1)]), [("shift", A, -many)], [0x75], [0x75 >> many])

    def test_within_octets(self):
        for ends in ("little", "big"):
            layout = struct([("a", I2)], ends=ends)
            octets = list((0x8123).to_bytes(2, ends))
            self.makes(layout, [("shift", A, 4)], octets, list((0x1230).to_bytes(2, ends)))
            self.makes(layout, [("shift", A, -4)], octets, list((0x0812).to_bytes(2, ends)))
            self.makes(layout, [("shift", A, 9)], octets, list((0x4600).to_bytes(2, ends)))
        layout = struct([("a", S8)])
        self.makes(layout, [("shift", A, -63)], [0] * 7 + [0x80], [255] * 8)
        self.makes(layout, [("shift", A, 63)], [1] + [0] * 7, [0] * 7 + [0x80])

    def test_bit_fields(self):
        layout = struct([("a", I1, 3), ("b", S1, 5)])
        self.makes(layout, [("shift", A, 1)], [0b10110_111], [0b10110_110])
        self.makes(layout, [("shift", B, -2)], [0b10110_101], [0b11101_101])
        self.makes(layout, [("shift", B, 2)], [0b10110_101], [0b11000_101])
        self.makes(layout, [("shift", A, -3)], [0xFF], [0xF8])
        self.makes(layout, [("shift", B, -100)], [0b10000_101], [0b11111_101])
        self.makes(layout, [("shift", B, 100)], [0xFF], [0b111])
        big = struct([("a", I1, 3), ("b", S1, 5)], ends="big")
        self.makes(big, [("shift", A, 1)], [0b111_10110], [0b110_10110])
        self.makes(big, [("shift", B, -2)], [0b101_10110], [0b101_11101])

    def test_one_bit(self):
        self.makes(struct([("a", S1, 1)]), [("shift", A, -1)], [1], [1])
        self.makes(struct([("a", I1, 1)]), [("shift", A, -1)], [1], [0])
        self.makes(struct([("a", S1, 1)]), [("shift", A, 1)], [1], [0])


class TurnTest(Case):
    def test_widths(self):
        for size in (1, 2, 4, 8):
            for ends in ("little", "big"):
                layout = struct([("p", I1), ("a", ("int", size, size > 2)), ("q", I1)], ends=ends, pack=1)
                octets = list(range(10, 12 + size))
                self.makes(layout, [("turn", A)], octets, [10, *reversed(octets[1:-1]), octets[-1]])

    def test_bit_fields(self):
        for bits in (8, 16, 24, 40, 64):
            for ends in ("little", "big"):
                layout = struct([("p", I8, 4), ("a", I8, bits), ("q", I8, 4)], ends=ends, pack=1)
                value = int.from_bytes(bytes(range(0x9A, 0x9A + bits // 8)), "big")
                turned = int.from_bytes(bytes(range(0x9A, 0x9A + bits // 8)), "little")
                if ends == "little":
                    octets = list((0x5 + (value << 4) + (0xC << bits + 4)).to_bytes(bits // 8 + 1, "little"))
                    wanted = list((0x5 + (turned << 4) + (0xC << bits + 4)).to_bytes(bits // 8 + 1, "little"))
                else:
                    octets = list(((0x5 << bits + 4) + (value << 4) + 0xC).to_bytes(bits // 8 + 1, "big"))
                    wanted = list(((0x5 << bits + 4) + (turned << 4) + 0xC).to_bytes(bits // 8 + 1, "big"))
                self.makes(layout, [("turn", A)], octets, wanted)

    def test_of_eight_bits_nothing_changes(self):
        self.makes(struct([("a", I1), ("b", I2, 8)]), [("turn", A), ("turn", B)], [0x35, 0x71], [0x35, 0x71])

    def test_twice(self):
        self.makes(MIXED, [("turn", ("o",)), ("turn", ("o",))], OCTETS, OCTETS)


class MoveTest(Case):
    def test_apart(self):
        self.makes(PAIR, [("move", 0, 3, 1)], [1, 2, 3, 4], [4, 2, 3, 4])
        self.makes(PAIR, [("move", 2, 0, 2)], [1, 2, 3, 4], [1, 2, 1, 2])

    def test_all_are_read_first(self):
        self.makes(PAIR, [("move", 1, 0, 3)], [1, 2, 3, 4], [1, 1, 2, 3])
        self.makes(PAIR, [("move", 0, 1, 3)], [1, 2, 3, 4], [2, 3, 4, 4])
        self.makes(PAIR, [("move", 0, 0, 4)], [1, 2, 3, 4], [1, 2, 3, 4])

    def test_ends_tell_nothing_here(self):
        self.makes(struct([("a", I2), ("b", I2)], ends="big"), [("move", 1, 0, 3)], [1, 2, 3, 4], [1, 1, 2, 3])

    def test_holes_too(self):
        self.makes(struct([("a", I1), ("b", I2)]), [("move", 1, 0, 1)], [1, 2, 3, 4], [1, 1, 3, 4])


class RunTest(Case):
    def test_deeds_one_after_another(self):
        self.makes(PAIR, [("set", A, 1), ("copy", B, A), ("shift", B, 9), ("turn", B), ("swap", A, B), ("move", 3, 0, 1)],
                   [9, 9, 9, 9], [2, 0, 1, 2])

    def test_nothing(self):
        self.makes(PAIR, [], [1, 2, 3, 4], [1, 2, 3, 4])
        self.makes(EMPTY, [], [], [])

    def test_the_greatest_limits(self):
        layout = struct([("a", ("array", I8, 8))])
        octets = list(range(64))
        program = [("move", 1, 0, 63), ("move", 0, 1, 63), ("swap", ("a", 0), ("a", 7)), ("turn", ("a", 3))] * 3
        self.assertEqual(len(program), 12)
        wanted = octets
        for k in range(3):
            wanted = wanted[:63] + [wanted[62]]
            wanted = wanted[56:64] + wanted[8:24] + wanted[31:23:-1] + wanted[32:56] + wanted[0:8]
        # Both moves together lose the last octet alone.
        self.makes(layout, program, octets, wanted)

    def test_a_new_list(self):
        octets = [1, 2, 3, 4]
        for program in ([], [("copy", A, A)]):
            made = run(PAIR, program, octets)
            self.assertIs(made.__class__, list)
            self.assertIsNot(made, octets)
            self.assertIsNot(made, run(PAIR, program, octets))
            made[0] = 77
            made.append(5)
            self.assertEqual(octets, [1, 2, 3, 4])

    def test_what_was_passed_stays(self):
        octets, program = list(OCTETS), as_lists(GOOD)
        kept = copy.deepcopy(program)
        run(MIXED, program, octets)
        self.assertEqual((octets, program), (OCTETS, kept))

    def test_bad_octet(self):
        for thing in [256, -1, 2 ** 70, -2 ** 70, MIXED, (3,), *NO_INTEGERS]:
            # The first wrong thing, ahead of what is wrong with the number of octets and with the program.
            for octets in ([1, 2, thing, 4], [thing], (0, 0, 0, 0, thing, -5, None), [1, thing, 300, "x"]):
                for program in ([], None, [5]):
                    with self.assertRaises(BadOctet) as caught:
                        run(PAIR, program, octets)
                    self.assertIs(caught.exception.value, thing)

    def test_bad_size(self):
        for octets in ([], [1], [1, 2, 3], [1, 2, 3, 4, 5], (0,) * 200):
            for program in ([], None, [5]):
                with self.assertRaises(BadSize) as caught:
                    run(PAIR, program, octets)
                self.assertEqual(caught.exception.many, len(octets))
        with self.assertRaises(BadSize) as caught:
            run(EMPTY, [], [0])
        self.assertEqual(caught.exception.many, 1)

    def test_bad_program(self):
        for deed in BAD:
            for ahead in range(3):
                octets = list(OCTETS)
                with self.assertRaises(BadProgram) as caught:
                    run(MIXED, [*GOOD[:ahead], deed, GOOD[3], None], octets)
                self.assertEqual(caught.exception.place, ahead, deed)
                self.assertEqual(octets, OCTETS)

    def test_no_list(self):
        for thing in [None, True, 0, "", "set", {}, {0: GOOD[0]}, MIXED]:
            with self.assertRaises(BadProgram) as caught:
                run(MIXED, thing, OCTETS)
            self.assertIsNone(caught.exception.place)
        with self.assertRaises(BadProgram) as caught:
            run(MIXED, GOOD[0], OCTETS)
        self.assertEqual(caught.exception.place, 0)


if __name__ == "__main__":
    unittest.main()
