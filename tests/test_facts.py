"""Points 2, 3, 4, 5, 26, 27, 28, 29 and 32: facts of memories, ahead of programs and behind them."""

import copy
import inspect
import unittest

from fieldberth import facts as facts_file
from fieldberth.effects import effect
from fieldberth.errors import BadFact, BadOctet, BadProgram, BadSize
from fieldberth.facts import follows, has_facts, keeps, needed, possible
from fieldberth.layouts import struct, union
from fieldberth.programs import run
from tests.plain import NO_INTEGERS, as_lists, as_tuples, inner_rows, share_nothing

I1 = ("int", 1, False)
S1 = ("int", 1, True)
I2 = ("int", 2, False)
S2 = ("int", 2, True)
I8 = ("int", 8, False)
S8 = ("int", 8, True)

A, B, C, D, X, Y = ("a",), ("b",), ("c",), ("d",), ("x",), ("y",)
ONE = struct([("a", I1)])
SIGNED = struct([("a", S1)])
PAIR = struct([("a", I2), ("b", I2)])
MIXED = struct([("a", I1), ("b", S1), ("c", I2), ("d", S2)])
HALVES = struct([("a", I1, 4), ("b", S1, 4)])
SHARED = union([("a", I2, 10), (None, struct([("x", I2, 6), ("y", I2, 10)]))])
EMPTY = struct([])
GREAT = union([("a", ("array", S8, 8)), ("b", ("array", I2, 32))])

BAD_FACTS = [5, "is", "same", "", None, True, [], (), {}, ONE, ("is",), ("is", A), ("same", A), ("is", A, 1, 2),
             ("same", A, A, A), ("is", A, True), ("is", A, None), ("is", A, "1"), ("is", A, A), ("is", A, [1]),
             ("is", "a", 1), ("is", (), 1), ("is", ("z",), 1), ("is", ("a", 0), 1), ("is", (0,), 1), ("is", None, 1),
             ("is", 5, 1), ("is", {}, 1), ("is", (None,), 1), ("is", (A,), 1), ("is", ([],), 1), ("same", A, ()),
             ("same", (), A), ("same", A, 1), ("same", A, "a"), ("same", "a", A), ("same", A, None),
             ("same", A, ("z",)), ("same", ("z",), A), ("was", A, 1), ("Is", A, 1), (None, A, 1), (0, A, 1),
             (A, "is", 1), ("set", A, 1), ("bit", 0), (("is", A, 1),), [["is", A, 1]], {"is": A}, ["same", A, []],
             ["is", ["a"], 1, 1], ("is", ONE, 1), ("same", ONE, A)]
BAD_PROGRAMS = [(None, None), ("set", None), ({}, None), ([5], 0), ([("turn", A), ("shift", A, 0)], 1)]


def bits(*numbers):
    return [("bit", number) for number in numbers]


def known(*numbers):
    return [("is", number) for number in numbers]


def free(many):
    return [None] * many


def octet(number):
    """The wants of the bits of an octet that must be a number."""
    return known(*[number >> place & 1 for place in range(8)])


class Case(unittest.TestCase):
    def refused(self, ask):
        """ask is passed lists with things that are no facts by a layout that has a alone."""
        good = ("is", A, 1)
        for thing in BAD_FACTS:
            for things in ([thing], [good, thing], (good, ("same", A, A), thing, 5), [thing, ("is",)],
                           [("is", A, 256), thing]):
                with self.assertRaises(BadFact) as caught:
                    ask(things)
                self.assertIs(caught.exception.fact, thing)


class HasFactsTest(Case):
    def test_what_an_integer_is(self):
        for layout, octets, path, number in [
            (ONE, [0], A, 0), (ONE, [200], A, 200), (SIGNED, [200], A, -56), (SIGNED, [127], A, 127),
            (PAIR, [1, 2, 3, 4], A, 513), (PAIR, [1, 2, 3, 4], B, 1027), (HALVES, [0xf5], A, 5),
            (HALVES, [0xf5], B, -1), (struct([("a", S2)], ends="big"), [0xff, 0xfe], A, -2),
        ]:
            self.assertIs(has_facts(layout, octets, [("is", path, number)]), True)
            for by in (1, -1, -2 * number - 1, 256, -256, 65536, 2 ** 69, -2 ** 69):
                other = number + by
                self.assertIs(has_facts(layout, octets, [("is", path, other)]), False, (octets, other))

    def test_numbers_that_the_bits_cannot_have(self):
        for value in range(256):
            self.assertIs(has_facts(ONE, [value], [("is", A, value)]), True)
            self.assertIs(has_facts(SIGNED, [value], [("is", A, value)]), value < 128)
            self.assertIs(has_facts(ONE, [value], [("is", A, value - 256)]), False)
            self.assertIs(has_facts(SIGNED, [value], [("is", A, value - 256)]), value >= 128)
            self.assertIs(has_facts(ONE, [value], [("is", A, value + 256)]), False)
            self.assertIs(has_facts(SIGNED, [value], [("is", A, value + 256)]), False)

    def test_one_bit(self):
        layout = struct([("a", I1, 1), ("b", S1, 1)])
        self.assertIs(has_facts(layout, [3], [("is", A, 1), ("is", B, -1)]), True)
        self.assertIs(has_facts(layout, [3], [("is", A, -1)]), False)
        self.assertIs(has_facts(layout, [3], [("is", B, 1)]), False)
        self.assertIs(has_facts(layout, [3], [("same", A, B)]), False)
        self.assertIs(has_facts(layout, [0], [("same", A, B)]), True)

    def test_the_same(self):
        for octets, wanted in [([5, 5, 5, 0, 5, 0], True), ([127, 127, 127, 0, 127, 0], True), ([0] * 6, True)]:
            for one in (A, B, C, D):
                for two in (A, B, C, D):
                    self.assertIs(has_facts(MIXED, octets, [("same", one, two)]), wanted)
        octets = [255, 255, 255, 255, 255, 255]
        self.assertIs(has_facts(MIXED, octets, [("same", B, D)]), True)
        self.assertIs(has_facts(MIXED, octets, [("same", D, B)]), True)
        for one, two in [(A, B), (A, C), (A, D), (B, C), (C, D)]:
            self.assertIs(has_facts(MIXED, octets, [("same", one, two)]), False)
            self.assertIs(has_facts(MIXED, octets, [("same", two, one)]), False)
        self.assertIs(has_facts(MIXED, [255, 255, 255, 0, 255, 0], [("same", A, C), ("same", D, A)]), True)
        self.assertIs(has_facts(MIXED, [255, 255, 255, 0, 255, 0], [("same", B, D)]), False)
        self.assertIs(has_facts(PAIR, [1, 2, 1, 2], [("same", A, B)]), True)
        self.assertIs(has_facts(PAIR, [1, 2, 2, 1], [("same", A, B)]), False)

    def test_one_path_twice(self):
        for value in range(256):
            self.assertIs(has_facts(SIGNED, [value], [("same", A, A)]), True)

    def test_all_facts_are_wanted(self):
        self.assertIs(has_facts(PAIR, [1, 2, 3, 4], []), True)
        self.assertIs(has_facts(PAIR, [1, 2, 3, 4], ()), True)
        self.assertIs(has_facts(EMPTY, [], []), True)
        self.assertIs(has_facts(PAIR, [1, 0, 3, 0], [("is", A, 1), ("is", B, 3), ("is", A, 1)]), True)
        self.assertIs(has_facts(PAIR, [1, 0, 3, 0], [("is", A, 1), ("is", B, 4)]), False)
        self.assertIs(has_facts(PAIR, [1, 0, 3, 0], [("is", A, 2), ("is", B, 3)]), False)
        self.assertIs(has_facts(PAIR, [1, 0, 3, 0], [("is", A, 1), ("is", A, 2)]), False)

    def test_lists_in_the_place_of_tuples(self):
        facts = [("is", ("a", 0), -2), ("same", ("b", 0), ("b", 4))]
        octets = [255, 0] * 32
        for other in (facts, tuple(facts), as_lists(facts), as_tuples(facts)):
            kept = copy.deepcopy(other)
            self.assertIs(has_facts(GREAT, tuple(octets), other), False)
            self.assertIs(has_facts(GREAT, [254] + [255] * 63, other), False)
            self.assertIs(has_facts(GREAT, [254, *[255] * 7] * 8, other), True)
            self.assertEqual(other, kept)
        self.assertIs(has_facts(GREAT, octets, [["same", ["b", 0], ("b", 3)], ("is", ["b", 0], 255)]), True)

    def test_bad_octet_ahead_of_all(self):
        for thing in [256, -1, 2 ** 70, PAIR, (3,), *NO_INTEGERS]:
            for octets in ([1, 2, thing, 4], [thing], (0, 0, 0, 0, thing, -5)):
                for facts in ([], [5], [("is", A, 1)]):
                    with self.assertRaises(BadOctet) as caught:
                        has_facts(PAIR, octets, facts)
                    self.assertIs(caught.exception.value, thing)

    def test_bad_size_ahead_of_bad_fact(self):
        for octets in ([], [1], [1, 2, 3], (1, 2, 3, 4, 5)):
            for facts in ([], [5], [("is", A, 1)]):
                with self.assertRaises(BadSize) as caught:
                    has_facts(PAIR, octets, facts)
                self.assertEqual(caught.exception.many, len(octets))

    def test_bad_facts(self):
        for value in (0, 1, 255):
            self.refused(lambda facts: has_facts(ONE, [value], facts))
        with self.assertRaises(BadFact) as caught:
            has_facts(EMPTY, [], [("is", A, 0)])
        self.assertEqual(caught.exception.fact, ("is", A, 0))

    def test_what_was_passed_stays(self):
        octets, facts = [1, 0, 3, 0], [["is", ["a"], 1], ("same", A, ["b"])]
        kept = copy.deepcopy((octets, facts))
        has_facts(PAIR, octets, facts)
        self.assertEqual((octets, facts), kept)


class PossibleTest(Case):
    def test_no_facts(self):
        self.assertEqual(possible(PAIR, []), [0, 0, 0, 0])
        self.assertEqual(possible(GREAT, ()), [0] * 64)
        self.assertEqual(possible(EMPTY, []), [])

    def test_what_integers_are(self):
        self.assertEqual(possible(PAIR, [("is", B, 0x1234)]), [0, 0, 0x34, 0x12])
        self.assertEqual(possible(struct([("a", S2)], ends="big"), [("is", A, -2)]), [0xff, 0xfe])
        self.assertEqual(possible(HALVES, [("is", B, -8), ("is", A, 15)]), [0x8f])
        self.assertEqual(possible(struct([("a", I1), ("b", I2)]), [("is", B, 0xffff)]), [0, 0, 255, 255])

    def test_all_numbers_of_an_octet(self):
        for number in range(-260, 520):
            self.assertEqual(possible(ONE, [("is", A, number)]), [number] if 0 <= number < 256 else None)
            self.assertEqual(possible(SIGNED, [("is", A, number)]), [number % 256] if -128 <= number < 128 else None)

    def test_numbers_that_no_bits_have(self):
        for number in (2 ** 64, -2 ** 63 - 1, 2 ** 70, -2 ** 70, 2 ** 63):
            self.assertIsNone(possible(struct([("a", S8)]), [("is", A, number)]))
        self.assertIsNone(possible(struct([("a", I8)]), [("is", A, 2 ** 64)]))
        self.assertIsNone(possible(struct([("a", I8)]), [("is", A, -1)]))
        self.assertEqual(possible(struct([("a", I8)]), [("is", A, 2 ** 64 - 1)]), [255] * 8)
        self.assertEqual(possible(struct([("a", S8)]), [("is", A, -2 ** 63)]), [0] * 7 + [128])

    def test_facts_that_no_memory_has(self):
        self.assertIsNone(possible(PAIR, [("is", A, 1), ("is", A, 2)]))
        self.assertIsNone(possible(PAIR, [("is", A, 1), ("same", A, B), ("is", B, 2)]))
        self.assertIsNone(possible(PAIR, [("same", A, B), ("is", A, 1), ("is", B, 0)]))
        self.assertIsNone(possible(PAIR, [("is", A, 1), ("is", A, 65537)]))

    def test_the_same(self):
        self.assertEqual(possible(PAIR, [("same", A, B)]), [0, 0, 0, 0])
        self.assertEqual(possible(PAIR, [("same", A, B), ("is", B, 513)]), [1, 2, 1, 2])
        self.assertEqual(possible(PAIR, [("is", A, 513), ("same", B, A)]), [1, 2, 1, 2])
        self.assertEqual(possible(PAIR, [("same", A, A), ("is", B, 1)]), [0, 0, 1, 0])
        ring = [("same", ("b", k), ("b", k + 1)) for k in range(11)]
        layout = struct([("b", ("array", I1, 12))])
        self.assertEqual(possible(layout, ring + [("is", ("b", 11), 7)]), [7] * 12)
        self.assertEqual(possible(layout, ring[::-1] + [("is", ("b", 0), 7)]), [7] * 12)

    def test_the_same_by_unlike_signs(self):
        self.assertEqual(possible(MIXED, [("same", A, B), ("is", A, 127)])[:2], [127, 127])
        self.assertIsNone(possible(MIXED, [("same", A, B), ("is", A, 128)]))
        self.assertIsNone(possible(MIXED, [("same", A, B), ("is", B, -1)]))
        self.assertIsNone(possible(MIXED, [("same", B, A), ("is", B, -128)]))

    def test_the_same_by_unlike_widths(self):
        self.assertEqual(possible(MIXED, [("same", A, C), ("is", A, 200)]), [200, 0, 200, 0, 0, 0])
        self.assertIsNone(possible(MIXED, [("same", A, C), ("is", C, 256)]))
        self.assertEqual(possible(MIXED, [("same", B, D), ("is", B, -2)]), [0, 254, 0, 0, 254, 255])
        self.assertEqual(possible(MIXED, [("same", D, B), ("is", D, -128)]), [0, 128, 0, 0, 128, 255])
        self.assertIsNone(possible(MIXED, [("same", D, B), ("is", D, -129)]))
        self.assertIsNone(possible(MIXED, [("same", D, B), ("is", D, 128)]))
        self.assertEqual(possible(MIXED, [("same", A, D), ("is", A, 255)]), [255, 0, 0, 0, 255, 0])
        self.assertIsNone(possible(MIXED, [("same", A, D), ("is", D, -1)]))
        self.assertIsNone(possible(MIXED, [("same", C, B), ("is", C, 128)]))
        self.assertIsNone(possible(MIXED, [("same", C, B), ("is", B, -1)]))
        self.assertEqual(possible(MIXED, [("same", C, B), ("is", B, 127)]), [0, 127, 127, 0, 0, 0])

    def test_bits_that_two_paths_share(self):
        layout = union([("a", I2), (None, struct([("x", I1), ("y", S1)]))])
        self.assertEqual(possible(layout, [("is", A, 0x1234)]), [0x34, 0x12])
        self.assertEqual(possible(layout, [("is", X, 7), ("is", Y, -1)]), [7, 255])
        self.assertEqual(possible(layout, [("is", X, 7), ("is", Y, -1), ("is", A, 0xff07)]), [7, 255])
        self.assertIsNone(possible(layout, [("is", X, 7), ("is", A, 8)]))
        self.assertEqual(possible(layout, [("same", X, Y), ("is", A, 0x0303)]), [3, 3])
        self.assertIsNone(possible(layout, [("same", X, Y), ("is", A, 0xffff)]))
        self.assertIsNone(possible(layout, [("same", X, A), ("is", Y, 1)]))
        self.assertEqual(possible(layout, [("same", X, A), ("is", X, 200)]), [200, 0])

    def test_bits_that_are_the_same_all_along(self):
        # Bit n + 6 is as bit n.
        self.assertEqual(possible(SHARED, [("same", A, Y), ("is", X, 5)]), [69, 81])
        self.assertIsNone(possible(SHARED, [("same", A, Y), ("is", X, 5), ("is", A, 5)]))
        self.assertEqual(possible(SHARED, [("same", Y, A), ("is", Y, 0)]), [0, 0])

    def test_limits(self):
        ring = [("same", ("a", k), ("a", k + 1)) for k in range(7)]
        self.assertEqual(possible(GREAT, ring + [("is", ("b", 1), 999)]), [0, 0, 231, 3, 0, 0, 0, 0] * 8)
        # b 30 is in the upper half of a 7, which is 0 then.
        upper = ring + [("same", ("b", 30), ("a", 0))]
        self.assertEqual(possible(GREAT, upper), [0] * 64)
        self.assertIsNone(possible(GREAT, upper + [("is", ("b", 0), 999)]))

    def test_lists_in_the_place_of_tuples(self):
        facts = [("is", A, 513), ("same", A, B)]
        for other in (tuple(facts), as_lists(facts), as_tuples(facts)):
            kept = copy.deepcopy(other)
            self.assertEqual(possible(PAIR, other), [1, 2, 1, 2])
            self.assertEqual(other, kept)

    def test_a_new_list_each_time(self):
        self.assertIs(possible(PAIR, []).__class__, list)
        self.assertIsNot(possible(PAIR, []), possible(PAIR, []))

    def test_bad_facts(self):
        self.refused(lambda facts: possible(ONE, facts))
        # Also behind facts that no memory has.
        with self.assertRaises(BadFact) as caught:
            possible(ONE, [("is", A, 1), ("is", A, 2), 7])
        self.assertEqual(caught.exception.fact, 7)


class KeepsTest(Case):
    def test_the_example_of_point_32(self):
        layout = struct([("a", ("int", 2, False)), ("b", ("int", 2, False))])
        program = [("swap", ("a",), ("b",))]
        self.assertIsNone(keeps(layout, [("is", ("a",), 7)], program, [("is", ("b",), 7)]))
        self.assertEqual(keeps(layout, [], program, [("is", ("b",), 7)]), [0, 0, 0, 0])

    def test_no_facts(self):
        for before in ([], [("is", A, 7)], [("is", A, 7), ("is", A, 8)]):
            self.assertIsNone(keeps(PAIR, before, [("set", A, 1)], []))
        self.assertIsNone(keeps(EMPTY, [], [], []))

    def test_no_memory_has_the_facts_before(self):
        for before in ([("is", A, -1)], [("is", A, 7), ("is", A, 8)]):
            for after in ([("is", A, 7)], [("is", A, -1)], [("same", A, B)], []):
                self.assertIsNone(keeps(PAIR, before, [], after))

    def test_no_memory_has_the_facts_behind(self):
        self.assertEqual(keeps(PAIR, [], [], [("is", A, -1)]), [0, 0, 0, 0])
        self.assertEqual(keeps(PAIR, [("is", A, 7)], [], [("is", A, 65536)]), [7, 0, 0, 0])
        self.assertEqual(keeps(PAIR, [("is", B, 7)], [], [("is", B, 7), ("is", B, 8)]), [0, 0, 7, 0])
        self.assertEqual(keeps(PAIR, [], [("set", A, 7)], [("is", A, 8)]), [0, 0, 0, 0])
        self.assertEqual(keeps(PAIR, [("same", A, B), ("is", A, 3)], [("set", B, 4)], [("same", A, B)]), [3, 0, 3, 0])

    def test_facts_that_are_kept(self):
        for before, program, after in [
            ([], [("set", A, 7)], [("is", A, 7)]),
            ([], [("set", A, -1)], [("is", A, 65535)]),
            ([], [("copy", A, B)], [("same", A, B), ("same", B, A), ("same", A, A)]),
            ([("same", A, B)], [("swap", A, B)], [("same", A, B)]),
            ([("is", A, 3), ("is", B, 4)], [("swap", A, B)], [("is", A, 4), ("is", B, 3)]),
            ([("is", A, 3)], [("shift", A, 2)], [("is", A, 12)]),
            ([("is", A, 0x1234)], [("turn", A)], [("is", A, 0x3412)]),
            ([("same", A, B)], [("set", B, 0), ("copy", B, A)], [("same", B, A)]),
            ([("is", A, 5), ("same", A, B)], [], [("is", B, 5)]),
        ]:
            self.assertIsNone(keeps(PAIR, before, program, after), (before, program, after))

    def test_the_least_memory(self):
        self.assertEqual(keeps(PAIR, [], [], [("same", A, B)]), [0, 0, 0, 1])
        self.assertEqual(keeps(PAIR, [], [], [("is", A, 0)]), [0, 1, 0, 0])
        self.assertEqual(keeps(PAIR, [], [], [("is", A, 0), ("is", B, 0)]), [0, 0, 0, 1])
        self.assertEqual(keeps(PAIR, [], [], [("is", A, 7)]), [0, 0, 0, 0])
        self.assertEqual(keeps(PAIR, [], [("copy", A, B)], [("is", A, 0)]), [0, 0, 0, 1])
        self.assertEqual(keeps(PAIR, [], [("set", A, 0)], [("same", A, B)]), [0, 0, 0, 1])
        self.assertEqual(keeps(PAIR, [], [("set", A, 1)], [("same", A, B)]), [0, 0, 0, 0])
        self.assertEqual(keeps(PAIR, [("is", B, 0)], [], [("same", A, B)]), [0, 1, 0, 0])
        self.assertEqual(keeps(PAIR, [("is", B, 1)], [], [("same", A, B)]), [0, 0, 1, 0])
        self.assertEqual(keeps(PAIR, [("is", A, 9)], [("swap", A, B)], [("is", A, 0)]), [9, 0, 0, 1])
        self.assertEqual(keeps(struct([("a", I2), ("b", I2)], ends="big"), [], [], [("same", A, B)]), [0, 0, 0, 1])
        self.assertEqual(keeps(HALVES, [], [], [("is", B, 0)]), [16])
        self.assertEqual(keeps(HALVES, [], [], [("same", A, B)]), [1])
        self.assertEqual(keeps(ONE, [], [("shift", A, -4)], [("is", A, 0)]), [16])

    def test_bits_that_are_the_same_weigh_together(self):
        # With a as b, the least memory in which a is not 0 has 1 in the upper octet of both.
        self.assertEqual(keeps(PAIR, [("same", A, B)], [], [("is", A, 0)]), [0, 1, 0, 1])
        self.assertEqual(keeps(PAIR, [("same", A, B)], [("shift", A, 8)], [("is", A, 0)]), [1, 0, 1, 0])
        layout = struct([("a", I1), ("b", I1), ("c", I1)])
        # Either a and c are 1, or b alone.
        self.assertEqual(keeps(layout, [("same", A, C)], [], [("same", A, B)]), [0, 1, 0])
        self.assertEqual(keeps(layout, [("same", A, B)], [], [("same", A, C)]), [0, 0, 1])
        self.assertEqual(keeps(layout, [("same", B, C)], [], [("same", A, B)]), [0, 1, 1])
        # The bits 0, 6 and 12 are [65, 16], those from 5 on [32, 8].
        self.assertEqual(keeps(SHARED, [("same", A, Y)], [], [("is", X, 0)]), [4, 65])

    def test_unlike_signs_and_widths(self):
        self.assertEqual(keeps(MIXED, [], [("copy", A, B)], [("same", A, B)]), [0, 128, 0, 0, 0, 0])
        self.assertIsNone(keeps(MIXED, [], [("copy", D, B)], [("same", B, D)]))
        self.assertIsNone(keeps(MIXED, [], [("copy", C, A)], [("same", C, A)]))
        self.assertEqual(keeps(MIXED, [], [("copy", C, B)], [("same", C, B)]), [0, 128, 0, 0, 0, 0])
        self.assertEqual(keeps(MIXED, [], [("copy", B, D)], [("same", B, D)]), [0, 0, 0, 0, 0, 1])
        self.assertIsNone(keeps(MIXED, [("same", A, B)], [("copy", C, B)], [("same", C, A)]))
        self.assertEqual(keeps(SIGNED, [], [("shift", A, -100)], [("is", A, 0)]), [128])
        self.assertEqual(keeps(SIGNED, [], [("shift", A, -100)], [("is", A, -1)]), [0])

    def test_memories_are_what_is_told(self):
        before, program, after = [("same", A, C)], [("shift", B, 1), ("copy", D, B)], [("same", D, A)]
        octets = keeps(MIXED, before, program, after)
        self.assertIs(has_facts(MIXED, octets, before), True)
        self.assertIs(has_facts(MIXED, run(MIXED, program, octets), after), False)

    def test_limits(self):
        program = [("swap", ("a", k % 8), ("a", (k + 1) % 8)) for k in range(7)]
        before = [("is", ("a", k), k - 4) for k in range(8)]
        after = [("is", ("a", k), (k + 1) % 8 - 4) for k in range(8)]
        self.assertIsNone(keeps(GREAT, before, program, after))
        self.assertEqual(keeps(GREAT, before[1:], program, after), possible(GREAT, before[1:]))
        self.assertEqual(keeps(GREAT, before[:7], program, after[:6]), None)
        after = [("is", ("a", 6), 0)]
        self.assertEqual(keeps(GREAT, before[:7], program, after), possible(GREAT, before[:7])[:63] + [1])
        ring = [("same", ("a", k), ("a", k + 1)) for k in range(7)]
        self.assertIsNone(keeps(GREAT, ring, program, ring))
        self.assertEqual(keeps(GREAT, ring[:6], program, ring), [0] * 63 + [1])

    def test_lists_in_the_place_of_tuples(self):
        before, program, after = [("is", A, 9)], [("swap", A, B)], [("is", A, 0)]
        for told in (as_lists, as_tuples):
            passed = [told(before), told(program), told(after)]
            kept = copy.deepcopy(passed)
            self.assertEqual(keeps(PAIR, *passed), [9, 0, 0, 1])
            self.assertEqual(passed, kept)

    def test_a_new_list_each_time(self):
        for after in ([("is", A, 5)], [("is", A, 0)]):
            self.assertIs(keeps(ONE, [], [], after).__class__, list)
            self.assertIsNot(keeps(ONE, [], [], after), keeps(ONE, [], [], after))

    def test_bad_facts(self):
        self.refused(lambda facts: keeps(ONE, facts, [], []))
        self.refused(lambda facts: keeps(ONE, facts, None, [7]))
        self.refused(lambda facts: keeps(ONE, [], [], facts))
        self.refused(lambda facts: keeps(ONE, [("is", A, -1)], [5], facts))

    def test_the_first_one_that_is_wrong(self):
        with self.assertRaises(BadFact) as caught:
            keeps(ONE, [("is", A, 1), 3], None, [4])
        self.assertEqual(caught.exception.fact, 3)
        with self.assertRaises(BadFact) as caught:
            keeps(ONE, [("is", A, 1)], None, [4])
        self.assertEqual(caught.exception.fact, 4)

    def test_bad_programs(self):
        for before in ([], [("is", A, 1)], [("is", A, -1)]):
            for after in ([], [("is", A, 1)]):
                for program, place in BAD_PROGRAMS:
                    with self.assertRaises(BadProgram) as caught:
                        keeps(ONE, before, program, after)
                    self.assertEqual(caught.exception.place, place)


class FollowsTest(Case):
    def test_the_example_of_point_32(self):
        layout = struct([("a", ("int", 2, False)), ("b", ("int", 2, False))])
        self.assertEqual(follows(layout, [], [("copy", ("a",), ("b",))]), [("same", ("a",), ("b",))])

    def test_nothing_follows(self):
        self.assertEqual(follows(PAIR, [], []), [])
        self.assertEqual(follows(PAIR, [], [("swap", A, B)]), [])
        self.assertEqual(follows(PAIR, [("same", A, A)], []), [])
        self.assertEqual(follows(EMPTY, [], []), [])
        self.assertEqual(follows(PAIR, [], [("shift", A, 15)]), [])

    def test_what_is_known(self):
        self.assertEqual(follows(PAIR, [("is", A, 7)], []), [("is", A, 7)])
        self.assertEqual(follows(PAIR, [("is", A, 7)], [("swap", A, B)]), [("is", B, 7)])
        self.assertEqual(follows(PAIR, [], [("set", A, -1)]), [("is", A, 65535)])
        self.assertEqual(follows(SIGNED, [], [("set", A, 200)]), [("is", A, -56)])
        self.assertEqual(follows(PAIR, [("is", A, 7)], [("shift", A, 1)]), [("is", A, 14)])
        self.assertEqual(follows(PAIR, [], [("shift", A, 16)]), [("is", A, 0)])
        self.assertEqual(follows(PAIR, [("is", A, 7)], [("set", A, 8)]), [("is", A, 8)])
        self.assertEqual(follows(HALVES, [("is", A, 9)], [("copy", B, A)]), [("is", A, 9), ("is", B, -7)])

    def test_no_memory_has_the_facts_before(self):
        self.assertIsNone(follows(PAIR, [("is", A, -1)], []))
        self.assertIsNone(follows(PAIR, [("is", A, 1), ("is", A, 2)], [("set", A, 0)]))
        self.assertIsNone(follows(MIXED, [("same", A, B), ("is", B, -1)], []))

    def test_known_ones_that_are_the_same(self):
        self.assertEqual(follows(PAIR, [("is", A, 7), ("is", B, 7)], []),
                         [("is", A, 7), ("is", B, 7), ("same", A, B)])
        self.assertEqual(follows(MIXED, [], [("set", A, 255), ("set", B, 255), ("set", C, 255), ("set", D, -1)]),
                         [("is", A, 255), ("is", B, -1), ("is", C, 255), ("is", D, -1), ("same", A, C), ("same", B, D)])

    def test_the_same_by_unlike_signs_and_widths(self):
        self.assertEqual(follows(MIXED, [], [("copy", C, A)]), [("same", A, C)])
        self.assertEqual(follows(MIXED, [], [("copy", D, A)]), [("same", A, D)])
        self.assertEqual(follows(MIXED, [], [("copy", D, B)]), [("same", B, D)])
        self.assertEqual(follows(MIXED, [], [("copy", C, B)]), [])
        self.assertEqual(follows(MIXED, [], [("copy", A, B)]), [])
        self.assertEqual(follows(MIXED, [], [("copy", C, D)]), [])
        self.assertEqual(follows(MIXED, [("same", A, B)], []), [("same", A, B)])
        self.assertEqual(follows(MIXED, [], [("shift", A, -1), ("copy", B, A)]), [("same", A, B)])
        self.assertEqual(follows(MIXED, [("same", A, B)], [("copy", C, B), ("copy", D, A)]),
                         [("same", one, two) for one, two in [(A, B), (A, C), (A, D), (B, C), (B, D), (C, D)]])

    def test_the_ascending_order(self):
        layout = struct([("z", I1), ("b", ("array", I1, 11)), ("a", I1)])
        zeros = [("move", 1, 0, 12)]
        told = follows(layout, [("is", ("z",), 3), ("is", ("b", 2), 0)], [("set", ("b", 10), 5)])
        self.assertEqual(told, [("is", ("b", 2), 0), ("is", ("b", 10), 5), ("is", ("z",), 3)])
        told = follows(layout, [("same", ("z",), ("b", 0))], zeros)
        self.assertEqual(told, [("same", ("b", 0), ("b", 1)), ("same", ("b", 0), ("z",)), ("same", ("b", 1), ("z",))])
        for before, program in [([("is", ("z",), 3)], [("copy", ("b", 2), ("z",)), ("copy", ("b", 10), ("b", 2))]),
                                ([], [("copy", ("b", k), ("a",)) for k in range(11)])]:
            told = follows(layout, before, program)
            self.assertEqual(told, sorted(told))
            for fact in told:
                self.assertTrue(fact[0] == "is" or fact[1] < fact[2])

    def test_bits_that_two_paths_share(self):
        layout = union([("a", I2), ("b", I2), ("c", S2), (None, struct([("x", I1), ("y", S1)]))])
        self.assertEqual(follows(layout, [], []), [("same", A, B)])
        self.assertEqual(follows(layout, [], [("shift", A, -1)]), [("same", A, B), ("same", A, C), ("same", B, C)])
        self.assertEqual(follows(layout, [("is", X, 7), ("is", Y, -1)], []),
                         [("is", A, 0xff07), ("is", B, 0xff07), ("is", C, -249), ("is", X, 7), ("is", Y, -1),
                          ("same", A, B)])
        self.assertEqual(follows(layout, [("is", Y, 0)], []),
                         [("is", Y, 0), ("same", A, B), ("same", A, C), ("same", A, X), ("same", B, C), ("same", B, X),
                          ("same", C, X)])
        self.assertEqual(follows(layout, [("same", A, X)], []), follows(layout, [("is", Y, 0)], []))

    def test_limits(self):
        told = follows(GREAT, [("is", ("a", k), 0) for k in range(8)], [])
        self.assertEqual(len(told), 40 + 40 * 39 // 2)
        self.assertEqual(told, sorted(told))
        self.assertEqual(follows(GREAT, [], [("set", ("a", 3), -1)]),
                         [("is", ("a", 3), -1)] + [("is", ("b", k), 65535) for k in range(12, 16)]
                         + [("same", ("b", one), ("b", two)) for one in range(12, 16) for two in range(one + 1, 16)])

    def test_new_lists_of_new_tuples(self):
        for told in (as_lists, as_tuples):
            before, program = told([("is", A, 7), ("same", A, B)]), told([("swap", A, B)])
            kept = copy.deepcopy((before, program))
            one, two = follows(PAIR, before, program), follows(PAIR, before, program)
            self.assertEqual(one, [("is", A, 7), ("is", B, 7), ("same", A, B)])
            self.assertIs(one.__class__, list)
            for thing in inner_rows(one)[1:]:
                self.assertIs(thing.__class__, tuple)
            self.assertTrue(share_nothing(one, two))
            self.assertTrue(share_nothing(one, (before, program)))
            self.assertEqual(len(inner_rows(one)), len({id(row) for row in inner_rows(one)}))
            self.assertEqual((before, program), kept)
        told = follows(MIXED, [("is", path, 5) for path in (A, B, C, D)], [])
        self.assertEqual(len(told), 10)
        self.assertEqual(len(inner_rows(told)), len({id(row) for row in inner_rows(told)}))

    def test_bad_facts(self):
        self.refused(lambda facts: follows(ONE, facts, []))
        self.refused(lambda facts: follows(ONE, facts, None))

    def test_bad_programs(self):
        for before in ([], [("is", A, 1)], [("is", A, -1)]):
            for program, place in BAD_PROGRAMS:
                with self.assertRaises(BadProgram) as caught:
                    follows(ONE, before, program)
                self.assertEqual(caught.exception.place, place)


class NeededTest(Case):
    def test_no_facts(self):
        self.assertEqual(needed(PAIR, [("swap", A, B)], []), free(32))
        self.assertEqual(needed(PAIR, [], [("same", A, A)]), free(32))
        self.assertEqual(needed(EMPTY, [], []), [])

    def test_what_a_bit_must_be(self):
        self.assertEqual(needed(PAIR, [], [("is", A, 0x1234)]), octet(0x34) + octet(0x12) + free(16))
        self.assertEqual(needed(PAIR, [("swap", A, B)], [("is", A, 0x1234)]), free(16) + octet(0x34) + octet(0x12))
        self.assertEqual(needed(HALVES, [], [("is", B, -3)]), free(4) + known(1, 0, 1, 1))
        self.assertEqual(needed(ONE, [("shift", A, 3)], [("is", A, 40)]), known(1, 0, 1, 0, 0) + free(3))
        self.assertEqual(needed(SIGNED, [("shift", A, -6)], [("is", A, -2)]), free(6) + known(0, 1))
        self.assertEqual(needed(PAIR, [("copy", A, B)], [("is", A, 1)]), free(16) + octet(1) + octet(0))

    def test_what_the_program_makes_is_not_needed(self):
        self.assertEqual(needed(PAIR, [("set", A, 7)], [("is", A, 7)]), free(32))
        self.assertEqual(needed(PAIR, [("copy", A, B)], [("same", A, B)]), free(32))
        self.assertEqual(needed(ONE, [("shift", A, -4)], [("is", A, 3)]), free(4) + known(1, 1, 0, 0))

    def test_no_such_memory(self):
        self.assertIsNone(needed(PAIR, [("set", A, 7)], [("is", A, 8)]))
        self.assertIsNone(needed(PAIR, [], [("is", A, -1)]))
        self.assertIsNone(needed(PAIR, [], [("is", A, 1), ("is", A, 2)]))
        self.assertIsNone(needed(PAIR, [("copy", A, B)], [("is", A, 1), ("is", B, 2)]))
        self.assertIsNone(needed(ONE, [("shift", A, 3)], [("is", A, 41)]))
        self.assertIsNone(needed(MIXED, [("set", B, -1)], [("same", A, B)]))

    def test_bits_that_must_be_equal(self):
        self.assertEqual(needed(PAIR, [], [("same", A, B)]), free(16) + bits(*range(16)))
        self.assertEqual(needed(PAIR, [], [("same", B, A)]), free(16) + bits(*range(16)))
        self.assertEqual(needed(PAIR, [("turn", A)], [("same", A, B)]), free(16) + bits(*range(8, 16), *range(8)))
        self.assertEqual(needed(PAIR, [("set", A, 5)], [("same", A, B)]), free(16) + octet(5) + octet(0))

    def test_the_least_bit_of_all(self):
        layout = struct([("a", I1), ("b", I1), ("c", I1)])
        wanted = free(8) + bits(*range(8), *range(8))
        for one, two in [((A, B), (B, C)), ((C, B), (B, A)), ((B, C), (A, C)), ((C, A), (C, B))]:
            self.assertEqual(needed(layout, [], [("same", *one), ("same", *two)]), wanted)
        self.assertEqual(needed(layout, [], [("same", B, C)]), free(16) + bits(*range(8, 16)))
        self.assertEqual(needed(layout, [], [("same", B, C), ("is", C, 255), ("same", A, B)]), known(*[1] * 24))
        self.assertEqual(needed(SHARED, [], [("same", A, Y)]), free(6) + bits(0, 1, 2, 3, 4, 5, 0, 1, 2, 3))

    def test_unlike_signs_and_widths(self):
        self.assertEqual(needed(MIXED, [], [("same", A, B)]),
                         free(7) + known(0) + bits(*range(7)) + known(0) + free(32))
        self.assertEqual(needed(MIXED, [], [("same", A, C)]), free(16) + bits(*range(8)) + octet(0) + free(16))
        self.assertEqual(needed(MIXED, [], [("same", D, B)]),
                         free(32) + bits(*range(8, 16), *[15] * 8))
        self.assertEqual(needed(MIXED, [], [("same", C, D)]),
                         free(31) + known(0) + bits(*range(16, 31)) + known(0))
        self.assertEqual(needed(MIXED, [], [("same", B, C)]),
                         free(15) + known(0) + bits(*range(8, 15)) + known(0) + octet(0) + free(16))

    def test_bits_in_holes(self):
        layout = struct([("a", I1), ("b", I2)])
        self.assertEqual(needed(layout, [("move", 0, 1, 1)], [("is", A, 9)]), free(8) + octet(9) + free(16))

    def test_limits(self):
        program = [("move", 1, 0, 63)] * 12
        self.assertEqual(needed(GREAT, program, [("is", ("a", 1), 0)]), known(*[0] * 32) + free(480))
        ring = [("same", ("a", k), ("a", k + 1)) for k in range(7)]
        self.assertEqual(needed(GREAT, [], ring[::-1]), free(64) + bits(*list(range(64)) * 7))

    def test_it_is_a_wish_of_what_was(self):
        program, after = [("swap", A, B), ("shift", A, 1), ("turn", B)], [("same", A, B)]
        self.assertEqual(len(needed(PAIR, program, after)), len(effect(PAIR, program)))

    def test_new_lists_of_new_tuples(self):
        for told in (as_lists, as_tuples):
            program, after = told([("swap", A, B)]), told([("is", A, 7), ("same", A, B)])
            kept = copy.deepcopy((program, after))
            one, two = needed(PAIR, program, after), needed(PAIR, program, after)
            self.assertEqual(one, (octet(7) + octet(0)) * 2)
            self.assertIs(one.__class__, list)
            for thing in one:
                self.assertIs(thing.__class__, tuple)
            self.assertTrue(share_nothing(one, two))
            self.assertEqual(len(inner_rows(one)), len({id(row) for row in inner_rows(one)}))
            self.assertEqual((program, after), kept)
        self.assertTrue(share_nothing(needed(PAIR, [], [("same", A, B)]), needed(PAIR, [], [("same", A, B)])))

    def test_bad_facts(self):
        self.refused(lambda facts: needed(ONE, [], facts))
        self.refused(lambda facts: needed(ONE, None, facts))

    def test_bad_programs(self):
        for after in ([], [("is", A, 1)], [("is", A, -1)]):
            for program, place in BAD_PROGRAMS:
                with self.assertRaises(BadProgram) as caught:
                    needed(ONE, program, after)
                self.assertEqual(caught.exception.place, place)


class InterfaceTest(unittest.TestCase):
    def test_names_and_parameters(self):
        for name, wanted in {"has_facts": "layout octets facts", "possible": "layout facts",
                             "keeps": "layout before program after", "follows": "layout before program",
                             "needed": "layout program after"}.items():
            told = getattr(facts_file, name)
            self.assertEqual(told.__module__, "fieldberth.facts")
            self.assertEqual(list(inspect.signature(told).parameters), wanted.split())

    def test_by_keyword(self):
        self.assertIs(has_facts(facts=[], octets=[3], layout=ONE), True)
        self.assertEqual(possible(facts=[], layout=ONE), [0])
        self.assertIsNone(keeps(after=[], program=[], before=[], layout=ONE))
        self.assertEqual(follows(program=[], before=[], layout=ONE), [])
        self.assertEqual(needed(after=[], program=[], layout=ONE), free(8))


if __name__ == "__main__":
    unittest.main()
