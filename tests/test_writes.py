"""Points 2, 3, 4, 5, 20 and 31: the fewest members by whose writing one memory becomes another one."""

import copy
import inspect
import unittest

from fieldberth import writes
from fieldberth.errors import BadOctet, BadSize
from fieldberth.layouts import struct, union
from fieldberth.writes import least_writes
from tests.plain import NO_INTEGERS, inner_rows, share_nothing

I1 = ("int", 1, False)
S1 = ("int", 1, True)
I2 = ("int", 2, False)
S2 = ("int", 2, True)
I4 = ("int", 4, False)

A, B, C, D, X, Y, Z = ("a",), ("b",), ("c",), ("d",), ("x",), ("y",), ("z",)
ONE = struct([("a", I1)])
PAIR = struct([("a", I2), ("b", I2)])
EMPTY = struct([])
HOLES = struct([("a", I1), ("b", I2), ("c", I1, 3)])
WORDS = union([("w", I4), (None, struct([("a", I2), ("b", S2)])), ("o", ("array", I1, 4))])
FIELDS = struct([("p", I1, 3), ("q", S1, 5)], ends="big")
MANY = struct([("r", ("array", I1, 10))])


class LeastWritesTest(unittest.TestCase):
    def test_equal_memories(self):
        self.assertEqual(least_writes(PAIR, [1, 2, 3, 4], [1, 2, 3, 4]), [])
        self.assertEqual(least_writes(EMPTY, [], []), [])
        self.assertEqual(least_writes(HOLES, [1, 7, 0, 0, 255, 255], [1, 7, 0, 0, 255, 255]), [])
        self.assertEqual(least_writes(struct([(None, I1, 8)]), [5], [5]), [])

    def test_the_members_that_differ(self):
        self.assertEqual(least_writes(PAIR, [1, 2, 3, 4], [1, 3, 3, 4]), [A])
        self.assertEqual(least_writes(PAIR, [1, 2, 3, 4], [1, 2, 2, 4]), [B])
        self.assertEqual(least_writes(PAIR, [1, 2, 3, 4], [4, 3, 2, 1]), [A, B])
        for bit in range(8):
            self.assertEqual(least_writes(FIELDS, [0], [1 << bit]), [("q",)] if bit < 5 else [("p",)])
            self.assertEqual(least_writes(FIELDS, [255], [255 - (1 << bit)]), [("q",)] if bit < 5 else [("p",)])
        self.assertEqual(least_writes(FIELDS, [0], [255]), [("p",), ("q",)])

    def test_paths_ascend(self):
        layout = struct([("z", I1), ("y", ("array", I1, 11)), ("a", I1), ("Z", I1)])
        self.assertEqual(least_writes(layout, [0] * 14, [1] * 14),
                         [("Z",), ("a",)] + [("y", index) for index in range(11)] + [("z",)])

    def test_holes_that_differ(self):
        self.assertIsNone(least_writes(HOLES, [0] * 6, [0, 1, 0, 0, 0, 0]))
        self.assertIsNone(least_writes(HOLES, [0] * 6, [0, 0, 0, 0, 8, 0]))
        self.assertIsNone(least_writes(HOLES, [0] * 6, [1, 128, 1, 1, 7, 0]))
        self.assertEqual(least_writes(HOLES, [0, 9, 0, 0, 0, 9], [0, 9, 0, 0, 7, 9]), [C])
        self.assertEqual(least_writes(HOLES, [9] * 6, [1, 9, 1, 1, 8, 9]), [A, B, C])
        for bit in range(48):
            new = [0] * 6
            new[bit // 8] = 1 << bit % 8
            self.assertEqual(least_writes(HOLES, [0] * 6, new) is None, bit in HOLES.holes())
        self.assertIsNone(least_writes(struct([(None, I1, 8)]), [5], [4]))

    def test_unions(self):
        self.assertEqual(least_writes(WORDS, [0] * 4, [1, 1, 1, 1]), [("w",)])
        self.assertEqual(least_writes(WORDS, [0] * 4, [1, 0, 0, 1]), [("w",)])
        self.assertEqual(least_writes(WORDS, [0] * 4, [1, 1, 0, 0]), [A])
        self.assertEqual(least_writes(WORDS, [0] * 4, [0, 0, 1, 0]), [B])
        self.assertEqual(least_writes(WORDS, [0] * 4, [0, 0, 0, 0]), [])

    def test_the_least_of_the_shortest(self):
        layout = union([("z", I1), ("m", I1), ("n", S1)])
        self.assertEqual(least_writes(layout, [0], [1]), [("m",)])
        layout = union([("x", I1), ("b", S1), ("w", I2), ("a", struct([("b", I1), ("a", I1)]))])
        self.assertEqual(least_writes(layout, [0, 0], [1, 0]), [("a", "b")])
        self.assertEqual(least_writes(layout, [0, 0], [0, 1]), [("a", "a")])
        self.assertEqual(least_writes(layout, [0, 0], [1, 1]), [("w",)])
        # Of two paths, also the second one is the least that will do.
        layout = struct([(None, union([("d", I1), ("c", I1)])), (None, union([("b", I1), ("e", I1)]))])
        self.assertEqual(least_writes(layout, [0, 0], [1, 1]), [B, C])

    def test_members_that_hold_the_most_are_not_always_wanted(self):
        # m has four octets that differ, but then two more members are wanted; f and g do it alone.
        layout = union([
            (None, struct([("p", I1), ("m", I4), ("q", I1)], pack=1)),
            (None, struct([("left", I2), ("y", I1), ("z", I1, 8), ("right", I2)], pack=1)),
            (None, struct([("f", I2, 16), ("g", I4, 32)], pack=1)),
        ])
        self.assertEqual(layout.size, 6)
        for new in ([1, 1, 1, 1, 1, 1], [1, 1, 0, 0, 1, 1], [1, 1, 1, 1, 1, 0], [1, 0, 0, 1, 0, 0], [0, 1, 1, 1, 1, 1]):
            self.assertEqual(least_writes(layout, [0] * 6, new), [("f",), ("g",)])
        self.assertEqual(least_writes(layout, [0] * 6, [0, 1, 1, 1, 1, 0]), [("m",)])
        self.assertEqual(least_writes(layout, [0] * 6, [1, 0, 0, 0, 0, 1]), [("f",), ("g",)])
        self.assertEqual(least_writes(layout, [0] * 6, [0, 0, 0, 0, 1, 1]), [("g",)])

    def test_only_paths_that_are_wanted_together(self):
        # a has the bits 0 to 2, b 2 to 4, c 4 to 7.
        layout = union([("a", I1, 3), (None, struct([(None, I1, 2), ("b", I1, 3)])),
                        (None, struct([(None, I1, 4), ("c", I1, 4)]))])
        for new, wanted in [(0b11111111, [A, B, C]), (0b11110111, [A, C]), (0b00010100, [B]), (0b00010111, [A, B]),
                            (0b00010011, [A, B]), (0b11110100, [A, C]), (0b11111100, [B, C]), (0b00000100, [A]),
                            (0b00010000, [B]), (0b00100000, [C]), (0b00101000, [B, C])]:
            self.assertEqual(least_writes(layout, [0], [new]), wanted)

    def test_ten_integers(self):
        self.assertEqual(least_writes(MANY, [0] * 10, [1] * 10), [("r", index) for index in range(10)])
        self.assertEqual(least_writes(MANY, [0] * 10, [0, 1] * 5), [("r", index) for index in range(1, 10, 2)])
        layout = union([("a", ("array", I2, 5)), (None, struct([("p", I1), ("b", ("array", I2, 4))], pack=1))])
        self.assertEqual(layout.size, 10)
        self.assertEqual(least_writes(layout, [0] * 10, [1] * 10), [("a", index) for index in range(5)])
        self.assertEqual(least_writes(layout, [0] * 10, [1] * 8 + [0, 0]), [("a", index) for index in range(4)])
        self.assertEqual(least_writes(layout, [0] * 10, [0] + [1] * 8 + [0]), [("b", index) for index in range(4)])
        self.assertEqual(least_writes(layout, [0] * 10, [1] * 9 + [0]), [("a", index) for index in range(5)])
        self.assertEqual(least_writes(layout, [0] * 10, [1, 0, 0, 1, 1, 0, 0, 0, 0, 0]), [("a", 0), ("b", 1)])
        same = union([("m" + str(k), I2) for k in range(10)])
        self.assertEqual(least_writes(same, [0, 0], [0, 1]), [("m0",)])

    def test_tuples_in_the_place_of_lists(self):
        self.assertEqual(least_writes(PAIR, (1, 2, 3, 4), (1, 3, 3, 4)), [A])

    def test_what_was_passed_stays(self):
        old, new = [1, 2, 3, 4], [4, 3, 2, 1]
        kept = copy.deepcopy((old, new))
        least_writes(PAIR, old, new)
        self.assertEqual((old, new), kept)

    def test_new_lists_of_new_tuples(self):
        one, two = least_writes(PAIR, [0] * 4, [1] * 4), least_writes(PAIR, [0] * 4, [1] * 4)
        self.assertIs(one.__class__, list)
        for path in one:
            self.assertIs(path.__class__, tuple)
        self.assertTrue(share_nothing(one, two))
        self.assertEqual(len(inner_rows(one)), 3)
        self.assertIsNot(least_writes(PAIR, [0] * 4, [0] * 4), least_writes(PAIR, [0] * 4, [0] * 4))

    def test_bad_octets(self):
        for thing in [256, -1, 2 ** 70, -2 ** 70, PAIR, (3,), *NO_INTEGERS]:
            for octets in ([1, 2, thing, 4], [thing], (0, 0, 0, 0, thing, -5)):
                for other in ([1, 2, 3, 4], [], [5, 300], [-7]):
                    with self.assertRaises(BadOctet) as caught:
                        least_writes(PAIR, octets, other)
                    self.assertIs(caught.exception.value, thing)
                with self.assertRaises(BadOctet) as caught:
                    least_writes(PAIR, [1, 2, 3, 4], octets)
                self.assertIs(caught.exception.value, thing)

    def test_bad_sizes(self):
        for octets in ([], [1], [1, 2, 3], (1, 2, 3, 4, 5)):
            for other in ([1, 2, 3, 4], [1, 2], [5, 300], [-7]):
                with self.assertRaises(BadSize) as caught:
                    least_writes(PAIR, octets, other)
                self.assertEqual(caught.exception.many, len(octets))
            with self.assertRaises(BadSize) as caught:
                least_writes(PAIR, [1, 2, 3, 4], octets)
            self.assertEqual(caught.exception.many, len(octets))


class InterfaceTest(unittest.TestCase):
    def test_names_and_parameters(self):
        self.assertIs(writes.least_writes, least_writes)
        self.assertEqual(least_writes.__module__, "fieldberth.writes")
        self.assertEqual(list(inspect.signature(least_writes).parameters), ["layout", "old", "new"])

    def test_by_keyword(self):
        self.assertEqual(least_writes(new=[1], old=[0], layout=ONE), [A])


if __name__ == "__main__":
    unittest.main()
