"""Points 2, 3, 4, 5, 23, 24, 25 and 32: wishes, and the shortest programs that make them so."""

import copy
import inspect
import unittest

from fieldberth import wishes
from fieldberth.effects import effect
from fieldberth.errors import BadWish
from fieldberth.layouts import struct, union
from fieldberth.wishes import fits, least_program, readable, wish_of
from tests.plain import NO_INTEGERS, as_lists, as_tuples, inner_rows, share_nothing

I1 = ("int", 1, False)
S1 = ("int", 1, True)
I2 = ("int", 2, False)
S2 = ("int", 2, True)
I4 = ("int", 4, False)
I8 = ("int", 8, False)

A, B, C, D = ("a",), ("b",), ("c",), ("d",)
ONE = struct([("a", I1)])
PAIR = struct([("a", I2), ("b", I2)])
FOUR = struct([("a", I1), ("b", S1), ("c", I1), ("d", S1)])
HALVES = struct([("a", I1, 4), ("b", S1, 4)])
EMPTY = struct([])
GREAT = struct([("a", ("array", I8, 4)), ("b", ("array", I1, 32))])


def bits(*numbers):
    return [("bit", number) for number in numbers]


def known(*numbers):
    return [("is", number) for number in numbers]


def free(many):
    return [None] * many


class FitsTest(unittest.TestCase):
    def test_each_bit_is_wanted(self):
        told = [("is", 0), ("is", 1), ("bit", 0), ("bit", 7)]
        self.assertIs(fits(told, [("is", 0), ("is", 1), ("bit", 0), ("bit", 7)]), True)
        for place, thing in [(0, ("is", 1)), (0, ("bit", 0)), (1, ("is", 0)), (1, ("bit", 1)), (2, ("is", 0)),
                             (2, ("bit", 7)), (3, ("bit", 0)), (3, ("bit", 6)), (3, ("is", 1))]:
            wish = list(told)
            wish[place] = thing
            self.assertIs(fits(told, wish), False, thing)

    def test_bits_that_are_let_go(self):
        told = [("is", 0), ("is", 1), ("bit", 0), ("bit", 7)]
        self.assertIs(fits(told, [None, None, None, None]), True)
        self.assertIs(fits(told, [None, ("is", 1), None, ("bit", 7)]), True)
        self.assertIs(fits(told, [None, ("is", 1), None, ("bit", 6)]), False)
        self.assertIs(fits(told, [None, ("is", 0), None, ("bit", 7)]), False)

    def test_of_nothing(self):
        self.assertIs(fits([], []), True)
        self.assertIs(fits((), ()), True)

    def test_effects(self):
        swap, there_and_back = [("swap", A, B)], [("swap", A, B), ("swap", A, B)]
        self.assertIs(fits(effect(PAIR, swap), effect(PAIR, swap)), True)
        self.assertIs(fits(effect(PAIR, there_and_back), effect(PAIR, swap)), False)
        self.assertIs(fits(effect(PAIR, there_and_back), effect(PAIR, [])), True)
        self.assertIs(fits(effect(PAIR, [("copy", A, B)]), effect(PAIR, swap)[:16] + free(16)), True)

    def test_lists_in_the_place_of_tuples(self):
        told = effect(HALVES, [("set", A, 5), ("shift", B, -1)])
        wish = list(told)
        wish[3] = wish[6] = None
        for one in (told, as_lists(told), tuple(told)):
            for two in (wish, as_lists(wish), tuple(wish), as_tuples(wish)):
                self.assertIs(fits(one, two), True)
        self.assertIs(fits(as_lists(told), [["is", 0], *wish[1:]]), False)
        self.assertIs(fits(told, [["bit", 1], *wish[1:]]), False)

    def test_what_was_passed_stays(self):
        told, wish = effect(HALVES, [("set", A, 5)]), [None, ["is", 0], *free(6)]
        kept = copy.deepcopy((told, wish))
        fits(told, wish)
        self.assertEqual((told, wish), kept)


class WishOfTest(unittest.TestCase):
    def refused(self, one, other, bit):
        with self.assertRaises(BadWish) as caught:
            wish_of(one, other)
        self.assertEqual(caught.exception.bit, bit)

    def test_of_one_layout(self):
        self.assertEqual(wish_of(PAIR, PAIR), bits(*range(32)))
        self.assertEqual(wish_of(EMPTY, EMPTY), [])
        layout = struct([("a", I1), ("b", I2)])
        self.assertEqual(wish_of(layout, layout), bits(*range(8)) + free(8) + bits(*range(16, 32)))
        both = union([("a", I2), ("b", S2, 9), ("c", ("array", I1, 2))])
        self.assertEqual(wish_of(both, both), bits(*range(16)))

    def test_from_the_one_to_the_other(self):
        other = struct([("b", I2), ("x", I1), ("a", I2)])
        self.assertEqual(wish_of(PAIR, other), bits(*range(16, 32)) + free(16) + bits(*range(16)))
        self.assertEqual(wish_of(other, PAIR), bits(*range(32, 48), *range(16)) + free(16))

    def test_unlike_ends(self):
        big = struct([("a", I2), ("b", I1)], ends="big")
        little = struct([("a", I2), ("b", I1)])
        wanted = bits(*range(8, 16), *range(8), *range(16, 24)) + free(8)
        self.assertEqual(wish_of(big, little), wanted)
        self.assertEqual(wish_of(little, big), wanted)
        field, big_field = struct([("a", I1, 3)]), struct([("a", I1, 3)], ends="big")
        self.assertEqual(wish_of(field, big_field), free(5) + bits(0, 1, 2))
        self.assertEqual(wish_of(big_field, field), bits(5, 6, 7) + free(5))

    def test_unlike_sizes(self):
        self.assertEqual(wish_of(ONE, FOUR), bits(*range(8)) + free(24))
        self.assertEqual(wish_of(FOUR, ONE), bits(*range(8)) + free(24))
        last = struct([("a", ("int", 1, True))], align=32)
        self.assertEqual(wish_of(last, ONE), bits(*range(8)) + free(248))
        self.assertEqual(wish_of(ONE, EMPTY), free(8))
        self.assertEqual(wish_of(EMPTY, ONE), free(8))

    def test_unlike_signs(self):
        signed = struct([("a", S2), ("b", I2)])
        self.assertEqual(wish_of(PAIR, signed), bits(*range(32)))
        self.assertEqual(wish_of(signed, PAIR), bits(*range(32)))

    def test_unlike_widths(self):
        for one, other in [(PAIR, ONE), (ONE, PAIR)]:
            self.assertEqual(wish_of(one, other), free(32))
        nine, ten = struct([("a", I2, 9), ("b", I1, 7)]), struct([("a", I4, 10), ("b", I4, 7)])
        self.assertEqual(wish_of(nine, ten), free(10) + bits(*range(9, 16)) + free(15))
        whole, field = struct([("a", I2)]), struct([("p", I4, 5), ("a", I4, 16)])
        self.assertEqual(wish_of(whole, field), free(5) + bits(*range(16)) + free(11))
        self.assertEqual(wish_of(field, whole), bits(*range(5, 21)) + free(16))

    def test_paths_that_one_of_them_does_not_have(self):
        for members in ([("b", I1)], [("a", ONE)], [("a", ("array", I1, 1))], [("A", I1)]):
            other = struct(members)
            self.assertEqual(wish_of(ONE, other), free(8))
            self.assertEqual(wish_of(other, ONE), free(8))

    def test_paths_through_layouts_and_arrays(self):
        one = struct([("r", ("array", struct([("x", I1), ("y", I1)]), 2)), (None, struct([("z", I1)]))])
        other = struct([("z", S1), ("r", ("array", struct([("y", I1), ("x", I1)]), 3))])
        wanted = bits(*range(32, 40), *range(8, 16), *range(8), *range(24, 32), *range(16, 24)) + free(16)
        self.assertEqual(wish_of(one, other), wanted)

    def test_unlike_conventions(self):
        one = struct([("a", ("int", 4, True), 3), ("b", I1)])
        other = struct([("a", ("int", 4, True), 3), ("b", I1)], convention="msvc")
        self.assertEqual(wish_of(one, other), bits(0, 1, 2) + free(29) + bits(*range(8, 16)) + free(24))
        self.assertEqual(wish_of(other, one), bits(0, 1, 2) + free(5) + bits(*range(32, 40)) + free(48))

    def test_unlike_things_wanted_of_a_bit(self):
        apart = struct([("a", I1), ("b", I1)])
        self.refused(apart, union([("a", I1), ("b", I1)]), 0)
        self.refused(apart, struct([("p", I2), (None, union([("a", I1), ("b", I1)]))]), 16)
        self.refused(apart, union([("b", I1), ("a", I1)], ends="big"), 0)
        fields = struct([("a", I1, 3), ("b", I1, 4)])
        self.refused(fields, union([("a", I1, 3), ("b", I1, 4)]), 0)
        self.refused(fields, union([("a", I1, 3), ("b", I1, 4)], ends="big"), 5)

    def test_the_least_of_such_bits(self):
        one = struct([("a", I1), ("b", I1), ("c", I1), ("d", I1)])
        lower = union([("a", I1), ("b", I1)])
        upper = union([("c", I1), ("d", I1)])
        self.refused(one, struct([(None, lower), (None, upper)]), 0)
        self.refused(one, struct([(None, upper), (None, lower)]), 0)
        self.refused(one, struct([("x", I1), (None, upper), (None, lower)]), 8)

    def test_only_some_of_the_shared_bits_are_wanted_unlike(self):
        # a and b agree on the bits 0 to 3, and go on unlike.
        one = struct([(None, union([("a", I1, 4), ("b", I1, 6)])), ("c", I1, 4), ("d", I1, 4)])
        other = union([("b", I1, 6), (None, struct([("a", I1, 4), ("c", I1, 4)]))])
        self.refused(one, other, 4)

    def test_the_same_thing_is_wanted_twice(self):
        one = struct([(None, union([("a", I1), ("b", S1)])), ("c", I1)])
        other = struct([("c", I1), (None, union([("a", I1), ("b", S1)]))])
        self.assertEqual(wish_of(one, other), bits(*range(8, 16), *range(8)))

    def test_a_bit_that_two_get(self):
        one = union([("a", I1), ("b", I1)])
        self.assertEqual(wish_of(one, struct([("a", I1), ("b", I1)])), bits(*range(8), *range(8)))

    def test_new_lists_of_new_tuples(self):
        one, two = wish_of(PAIR, PAIR), wish_of(PAIR, PAIR)
        self.assertIs(one.__class__, list)
        for thing in one:
            self.assertIs(thing.__class__, tuple)
        self.assertTrue(share_nothing(one, two))
        one.clear()
        self.assertEqual(two, bits(*range(32)))

    def test_it_is_a_wish(self):
        self.assertEqual(least_program(PAIR, wish_of(PAIR, struct([("b", S2), ("a", I2)])), 1), [("swap", A, B)])


class ReadableTest(unittest.TestCase):
    def test_one_layout(self):
        self.assertEqual(readable(PAIR, PAIR), [A, B])
        self.assertEqual(readable(GREAT, GREAT), GREAT.paths())
        self.assertEqual(readable(EMPTY, PAIR), [])
        self.assertEqual(readable(PAIR, EMPTY), [])

    def test_unlike_signs(self):
        one = struct([("a", I1), ("b", S1), ("c", I1, 1)])
        other = struct([("a", S1), ("b", S1), ("c", S1, 1)])
        self.assertEqual(readable(one, other), [B])
        self.assertEqual(readable(other, one), [B])

    def test_unlike_widths(self):
        one = struct([("a", I1, 3), ("b", I1, 4)])
        self.assertEqual(readable(one, struct([("a", I1, 3), ("b", I1, 5)])), [A])
        self.assertEqual(readable(one, struct([("a", I1, 3), ("b", I1, 3)])), [A])
        self.assertEqual(readable(one, struct([("a", I4, 3), ("b", I2, 4)])), [A, B])
        self.assertEqual(readable(struct([("a", I2)]), struct([("a", I2, 16)])), [A])
        self.assertEqual(readable(struct([("a", I2)]), struct([("a", I4)])), [])

    def test_unlike_ends(self):
        members = [("a", I1), ("b", S1), ("c", I2), ("d", I1, 8), ("e", I1, 3), ("f", I1, 1)]
        little, big = struct(members), struct(members, ends="big")
        self.assertEqual(readable(little, big), [A, B, D])
        self.assertEqual(readable(big, little), [A, B, D])

    def test_unlike_places(self):
        self.assertEqual(readable(PAIR, struct([("b", I2), ("a", I2)])), [])
        self.assertEqual(readable(struct([("a", I1), ("b", I1)]), struct([("a", I1), ("b", I1)], align=8)), [A, B])
        self.assertEqual(readable(struct([("a", I1), ("b", I2)]), struct([("a", I1), ("b", I2)], pack=1)), [A])
        one = struct([("a", ("int", 4, True), 3), ("b", I1)])
        self.assertEqual(readable(one, struct([("a", ("int", 4, True), 3), ("b", I1)], convention="msvc")), [A])

    def test_unlike_sizes(self):
        self.assertEqual(readable(ONE, FOUR), [A])
        self.assertEqual(readable(FOUR, ONE), [A])

    def test_the_order_of_paths(self):
        one = struct([("z", I1), ("r", ("array", I1, 3)), ("a", I1)])
        other = struct([("z", I1), ("r", ("array", I1, 2)), ("x", I1), ("a", I1)])
        self.assertEqual(readable(one, other), [("z",), ("r", 0), ("r", 1), ("a",)])

    def test_paths_to_something_else(self):
        self.assertEqual(readable(ONE, struct([("a", ("array", I1, 1))])), [])
        self.assertEqual(readable(struct([("a", ("array", I1, 1))]), ONE), [])
        self.assertEqual(readable(ONE, struct([("a", ONE)])), [])
        self.assertEqual(readable(ONE, struct([("x", I1)])), [])

    def test_names_of_anonymous_layouts(self):
        self.assertEqual(readable(ONE, struct([(None, union([("x", I2), ("a", I1)]))])), [A])

    def test_new_lists_of_new_tuples(self):
        one, two = readable(PAIR, PAIR), readable(PAIR, PAIR)
        self.assertIs(one.__class__, list)
        for path in one:
            self.assertIs(path.__class__, tuple)
        self.assertTrue(share_nothing(one, two))


class LeastProgramTest(unittest.TestCase):
    def test_the_example_of_point_32(self):
        layout = struct([("a", ("int", 2, False)), ("b", ("int", 2, False))])
        wish = effect(layout, [("swap", ("a",), ("b",))])
        self.assertEqual(least_program(layout, wish, 2), [("swap", ("a",), ("b",))])

    def test_no_deeds(self):
        for most in (0, 1, 2):
            self.assertEqual(least_program(PAIR, free(32), most), [])
            self.assertEqual(least_program(PAIR, effect(PAIR, []), most), [])
            self.assertEqual(least_program(PAIR, free(7) + bits(7) + free(24), most), [])
            self.assertEqual(least_program(EMPTY, [], most), [])

    def test_none(self):
        self.assertIsNone(least_program(PAIR, effect(PAIR, [("swap", A, B)]), 0))
        self.assertIsNone(least_program(ONE, known(0) + free(7), 0))
        self.assertIsNone(least_program(ONE, bits(7, 6, 5, 4, 3, 2, 1, 0), 2))
        hole = struct([(None, I1, 8)])
        self.assertIsNone(least_program(hole, known(0) + free(7), 2))

    def test_more_deeds_than_at_most(self):
        wish = known(1, 0, 0, 0, 0, 0, 0, 0) + bits(*range(8)) + free(16)
        self.assertIsNone(least_program(FOUR, wish, 1))
        self.assertEqual(least_program(FOUR, wish, 2), [("copy", B, A), ("set", A, 1)])
        # Three deeds would do.
        wish = known(1, 0, 0, 0, 0, 0, 0, 0) * 3 + free(8)
        self.assertIsNone(least_program(FOUR, wish, 2))

    def test_set(self):
        for number in (0, 1, 5, 128, 255):
            wish = known(*[number >> place & 1 for place in range(8)])
            self.assertEqual(least_program(ONE, wish, 2), [("set", A, number)])
            self.assertEqual(least_program(struct([("a", S1)]), wish, 2), [("set", A, number)])
        self.assertEqual(least_program(ONE, [("is", 1), None, ("is", 0), None, None, None, None, ("is", 1)], 1),
                         [("set", A, 129)])
        big = struct([("a", S2)], ends="big")
        self.assertEqual(least_program(big, known(*[0] * 7, 1, 1, *[0] * 7), 2), [("set", A, 0x8001)])

    def test_the_number_of_set_has_1_just_where_1_is_wanted(self):
        # The bits of b that are let go, or wanted from elsewhere, are 0 in the number.
        wish = free(4) + [("is", 1), None, ("is", 1), None]
        self.assertEqual(least_program(HALVES, wish, 1), [("set", B, 5)])
        self.assertEqual(least_program(ONE, [("is", 1), ("bit", 1), *free(6)], 2), None)
        self.assertEqual(least_program(HALVES, [("is", 1), *free(4), ("bit", 1), None, None], 2),
                         [("copy", B, A), ("set", A, 1)])

    def test_copy(self):
        self.assertEqual(least_program(PAIR, bits(*range(16, 32), *range(16, 32)), 2), [("copy", A, B)])
        self.assertEqual(least_program(PAIR, bits(*range(16), *range(16)), 2), [("copy", B, A)])
        layout = struct([("a", I1), ("b", S1, 3)])
        self.assertEqual(least_program(layout, bits(8, 9, 10, 10, 10, 10, 10, 10) + free(8), 1), [("copy", A, B)])

    def test_swap_of_a_lesser_and_a_greater_path(self):
        layout = struct([("b", I1), ("a", I1)])
        self.assertEqual(least_program(layout, bits(*range(8, 16), *range(8)), 1), [("swap", A, B)])
        layout = struct([("r", ("array", I1, 2))])
        self.assertEqual(least_program(layout, bits(*range(8, 16), *range(8)), 1), [("swap", ("r", 0), ("r", 1))])
        # Where the two share bits, the other order makes something else, and is not chosen.
        layout = union([("a", I2, 10), ("b", struct([("x", I2, 6), ("y", I2, 10)]))])
        one, other = [("swap", A, ("b", "y"))], [("swap", ("b", "y"), A)]
        self.assertEqual(least_program(layout, bits(*range(6, 12), *range(10)), 1), one)
        self.assertEqual(effect(layout, one), bits(*range(6, 12), *range(10)))
        self.assertEqual(effect(layout, other), bits(*range(6, 16), *range(4, 10)))
        self.assertIsNone(least_program(layout, effect(layout, other), 1))

    def test_shift(self):
        for many in (-7, -3, -1, 1, 3, 7):
            self.assertEqual(least_program(ONE, effect(ONE, [("shift", A, many)]), 1), [("shift", A, many)])
        signed = struct([("a", S1)])
        for many in (-7, -2, 2):
            self.assertEqual(least_program(signed, effect(signed, [("shift", A, many)]), 1), [("shift", A, many)])

    def test_shifts_by_8_and_more_are_not_chosen(self):
        single = struct([("a", S2)])
        for many in (-8, 8, 9, -15):
            self.assertIsNone(least_program(single, effect(single, [("shift", A, many)]), 1))
        for many, first, second in [(8, 1, 7), (-8, -7, -1), (14, 7, 7), (-14, -7, -7), (9, 2, 7)]:
            self.assertEqual(least_program(single, effect(single, [("shift", A, many)]), 2),
                             [("shift", A, first), ("shift", A, second)])
        self.assertIsNone(least_program(single, effect(single, [("shift", A, 15)]), 2))

    def test_turn(self):
        single = struct([("a", I2)])
        self.assertEqual(least_program(single, effect(single, [("turn", A)]), 2), [("turn", A)])
        field = struct([("p", I4, 3), ("a", I4, 24)])
        self.assertEqual(least_program(field, effect(field, [("turn", A)]), 2), [("turn", A)])

    def test_move(self):
        wish = bits(*range(8, 16)) + free(24)
        layout = struct([("a", I4)])
        self.assertEqual(least_program(layout, wish, 1), [("move", 0, 1, 1)])
        self.assertEqual(least_program(layout, bits(*range(16), *range(8, 24)), 1), [("move", 2, 1, 2)])
        self.assertEqual(least_program(layout, bits(*range(8), *range(24)), 1), [("move", 1, 0, 3)])
        self.assertEqual(least_program(layout, bits(*range(8, 32), *range(24, 32)), 1), [("move", 0, 1, 3)])
        self.assertEqual(least_program(layout, bits(*range(16), *range(16)), 2), [("move", 2, 0, 2)])
        hole = struct([(None, I2, 16), ("a", I1)])
        self.assertEqual(least_program(hole, free(8) + bits(*range(16, 24)) + free(8), 2), [("move", 0, 1, 2)])

    def test_the_least_of_several(self):
        # Also by ("move", 0, 1, 1), ("swap", A, B) and others.
        self.assertEqual(least_program(FOUR, bits(*range(8, 16)) + free(24), 1), [("copy", A, B)])
        # Also by ("shift", A, -1); "move" is less.
        layout = struct([("a", I2)])
        self.assertEqual(least_program(layout, bits(8) + free(15), 1), [("move", 0, 1, 1)])
        # ("set", A, 0) and ("shift", A, 1) up to ("shift", A, 7).
        self.assertEqual(least_program(layout, known(0) + free(15), 1), [("set", A, 0)])
        self.assertEqual(least_program(layout, known(0) + bits(0) + free(14), 1), [("shift", A, 1)])
        self.assertEqual(least_program(layout, free(9) + bits(8) + free(6), 1), [("shift", A, 1)])
        self.assertEqual(least_program(layout, free(9) + bits(15) + free(6), 1), [("shift", A, -6)])
        # Many from 1 to 3 would do.
        layout = struct([("a", I4)])
        self.assertEqual(least_program(layout, bits(8) + free(31), 1), [("move", 0, 1, 1)])

    def test_the_least_of_several_by_the_order_of_paths(self):
        layout = struct([("b", I1), ("a", I1), ("d", I1), ("c", I1)])
        zeros = known(*[0] * 8)
        self.assertEqual(least_program(layout, zeros + free(8) + zeros + free(8), 2), [("set", B, 0), ("copy", D, B)])
        self.assertEqual(least_program(layout, free(8) + zeros + free(8) + zeros, 2), [("set", A, 0), ("copy", C, A)])
        self.assertEqual(least_program(layout, zeros * 2 + free(16), 2), [("set", A, 0), ("copy", B, A)])
        ones = known(*[1] * 8)
        self.assertEqual(least_program(layout, zeros + free(8) + free(8) + ones, 2), [("set", B, 0), ("set", C, 255)])

    def test_the_shortest_ahead_of_the_least(self):
        layout = struct([("a", I2)])
        wish, longer = bits(1) + free(15), [("move", 1, 0, 1), ("shift", A, -1)]
        self.assertIs(fits(effect(layout, longer), wish), True)
        self.assertLess(longer, [("shift", A, -1)])
        self.assertEqual(least_program(layout, wish, 2), [("shift", A, -1)])
        self.assertEqual(least_program(layout, free(8) + known(0) + free(7), 2), [("set", A, 0)])

    def test_two_deeds(self):
        self.assertEqual(least_program(FOUR, bits(*[*range(8, 16)] * 2, *[*range(24, 32)] * 2), 2),
                         [("copy", A, B), ("copy", C, D)])
        wish = bits(*range(16, 24), *range(8), *range(8, 16), *range(24, 32))
        self.assertEqual(least_program(FOUR, wish, 2), [("swap", A, B), ("swap", A, C)])
        self.assertEqual(least_program(PAIR, effect(PAIR, [("turn", A), ("turn", B)]), 2), [("turn", A), ("turn", B)])
        self.assertEqual(least_program(HALVES, effect(HALVES, [("swap", A, B), ("shift", A, 2)]), 2),
                         [("shift", B, 2), ("swap", A, B)])

    def test_lists_in_the_place_of_tuples(self):
        wish = effect(FOUR, [("swap", A, B), ("set", D, 7)])
        wish[9] = None
        wanted = least_program(FOUR, wish, 2)
        self.assertEqual(wanted, [("set", D, 7), ("swap", A, B)])
        for other in (as_lists(wish), tuple(wish), as_tuples(wish)):
            kept = copy.deepcopy(other)
            self.assertEqual(least_program(FOUR, other, 2), wanted)
            self.assertEqual(other, kept)

    def test_new_lists_of_new_tuples(self):
        wish = effect(FOUR, [("swap", A, B), ("set", A, 7)])
        one, two = least_program(FOUR, wish, 2), least_program(FOUR, wish, 2)
        self.assertIs(one.__class__, list)
        for thing in inner_rows(one)[1:]:
            self.assertIs(thing.__class__, tuple)
        self.assertTrue(share_nothing(one, two))
        self.assertEqual(len(inner_rows(one)), len({id(row) for row in inner_rows(one)}))
        self.assertIsNot(least_program(FOUR, free(32), 1), least_program(FOUR, free(32), 1))

    def test_bad_wishes(self):
        good = bits(*range(8))
        things = [5, "", "is", [], (), ("is",), ("bit",), ("is", 2), ("is", -1), ("is", True), ("is", False),
                  ("is", None), ("is", 0, 0), ("bit", -1), ("bit", 8), ("bit", 2 ** 70), ("bit", True),
                  ("bit", False), ("bit", None),
                  ("bit", "0"), ("bit", 0, 0), ("was", 0), ("Is", 0), (None, 0), (0, 0), ("bit", (0,)), (("is", 0),),
                  {"is": 0}, True, False, ONE, ["is", 2], ["bit", 8], ("is", ONE)]
        for thing in things:
            for place in (0, 3, 7):
                wish = list(good)
                wish[place] = thing
                self.bad(ONE, wish)
                self.bad(ONE, tuple(wish))
        for wish in [*NO_INTEGERS, 5, "is", ONE, good[:7], good + [None], [], (), good[:7] + [("bit", 8)], {"is": 0},
                     "abcdefgh", {k: None for k in range(8)}, [good]]:
            self.bad(ONE, wish)
        for wish in [None, [None], bits(0), 5, {}]:
            self.bad(EMPTY, wish)
        self.bad(FOUR, good)

    def bad(self, layout, wish):
        for most in (0, 1, 2):
            with self.assertRaises(BadWish) as caught:
                least_program(layout, wish, most)
            self.assertIsNone(caught.exception.bit)


class InterfaceTest(unittest.TestCase):
    def test_names_and_parameters(self):
        for name, wanted in {"fits": "told wish", "wish_of": "one other", "readable": "one other",
                             "least_program": "layout wish most"}.items():
            told = getattr(wishes, name)
            self.assertEqual(told.__module__, "fieldberth.wishes")
            self.assertEqual(list(inspect.signature(told).parameters), wanted.split())

    def test_by_keyword(self):
        self.assertIs(fits(wish=[None], told=[("is", 0)]), True)
        self.assertEqual(wish_of(other=EMPTY, one=ONE), free(8))
        self.assertEqual(readable(other=FOUR, one=ONE), [A])
        self.assertEqual(least_program(most=0, wish=free(8), layout=ONE), [])


if __name__ == "__main__":
    unittest.main()
