"""Points 2, 3, 4, 5, 21, 22 and 32: effects, and what they tell of programs for every memory."""

import copy
import inspect
import unittest

from fieldberth import effects
from fieldberth.effects import effect, followed, lost, mate, same_effect, turned_back
from fieldberth.errors import BadOctet, BadProgram, BadSize
from fieldberth.layouts import struct, union
from fieldberth.programs import run
from tests.plain import NO_INTEGERS, as_lists, inner_rows, plain_effect_on, share_nothing

I1 = ("int", 1, False)
S1 = ("int", 1, True)
I2 = ("int", 2, False)
S2 = ("int", 2, True)
I4 = ("int", 4, False)
I8 = ("int", 8, False)

A, B, C, D = ("a",), ("b",), ("c",), ("d",)
ONE = struct([("a", I1)])
SIGNED = struct([("a", S1)])
PAIR = struct([("a", I2), ("b", I2)])
HALVES = struct([("a", I1, 4), ("b", S1, 4)])
EMPTY = struct([])
GREAT = struct([("a", ("array", I8, 4)), ("b", ("array", I1, 32))])
BAD_PROGRAMS = [(None, None), (5, None), ({}, None), ("set", None), (GREAT, None), ([None], 0), ([[]], 0),
                ([("turn", A), ("turn", A, 1), 5], 1), ([("set", A, 1), ("copy", A, A), ("shift", A, 0)], 2),
                ([("move", 0, 0, 65)], 0), (("turn", A), 0)]


def bits(*numbers):
    return [("bit", number) for number in numbers]


def zeros(many):
    return [("is", 0)] * many


class Case(unittest.TestCase):
    def refused(self, ask):
        """ask is passed programs that are none of a layout that has a."""
        for program, place in BAD_PROGRAMS:
            with self.assertRaises(BadProgram) as caught:
                ask(program)
            self.assertEqual(caught.exception.place, place)


class EffectTest(Case):
    def test_nothing(self):
        self.assertEqual(effect(ONE, []), bits(*range(8)))
        self.assertEqual(effect(PAIR, ()), bits(*range(32)))
        self.assertEqual(effect(EMPTY, []), [])

    def test_set(self):
        self.assertEqual(effect(ONE, [("set", A, 5)]), [("is", bit) for bit in (1, 0, 1, 0, 0, 0, 0, 0)])
        self.assertEqual(effect(HALVES, [("set", B, -2)]), bits(0, 1, 2, 3) + [("is", bit) for bit in (0, 1, 1, 1)])

    def test_copy(self):
        self.assertEqual(effect(PAIR, [("copy", A, B)]), bits(*range(16, 32), *range(16, 32)))
        layout = struct([("a", I1), ("b", S1, 3), ("c", I1, 2)])
        self.assertEqual(effect(layout, [("copy", A, B)])[:8], bits(8, 9, 10, 10, 10, 10, 10, 10))
        self.assertEqual(effect(layout, [("copy", A, C)])[:8], bits(11, 12) + zeros(6))

    def test_swap(self):
        self.assertEqual(effect(PAIR, [("swap", A, B)]), bits(*range(16, 32), *range(16)))

    def test_shift(self):
        self.assertEqual(effect(ONE, [("shift", A, 3)]), zeros(3) + bits(0, 1, 2, 3, 4))
        self.assertEqual(effect(ONE, [("shift", A, -3)]), bits(3, 4, 5, 6, 7) + zeros(3))
        self.assertEqual(effect(SIGNED, [("shift", A, -3)]), bits(3, 4, 5, 6, 7, 7, 7, 7))
        for many in (8, 9, 100):
            self.assertEqual(effect(SIGNED, [("shift", A, many)]), zeros(8))
            self.assertEqual(effect(ONE, [("shift", A, -many)]), zeros(8))
            self.assertEqual(effect(SIGNED, [("shift", A, -many)]), bits(*[7] * 8))
        self.assertEqual(effect(SIGNED, [("shift", A, -7)]), bits(*[7] * 8))

    def test_turn(self):
        layout = struct([("a", I2)], ends="big")
        self.assertEqual(effect(layout, [("turn", A)]), bits(*range(8, 16), *range(8)))
        layout = struct([("p", I4, 4), ("a", I4, 24)])
        self.assertEqual(effect(layout, [("turn", A)]),
                         bits(0, 1, 2, 3, *range(20, 28), *range(12, 20), *range(4, 12), 28, 29, 30, 31))

    def test_move(self):
        self.assertEqual(effect(PAIR, [("move", 1, 0, 3)]), bits(*range(8), *range(24)))

    def test_several_deeds(self):
        program = [("set", A, 1), ("shift", B, -1), ("swap", A, B)]
        self.assertEqual(effect(HALVES, program), bits(5, 6, 7, 7) + [("is", bit) for bit in (1, 0, 0, 0)])

    def test_what_is_set_and_shifted_is_known(self):
        self.assertEqual(effect(SIGNED, [("set", A, -128), ("shift", A, -3)]),
                         [("is", bit) for bit in (0, 0, 0, 0, 1, 1, 1, 1)])

    def test_lists_in_the_place_of_tuples(self):
        program = [("set", A, 1), ("shift", B, -1), ("swap", A, B), ("move", 0, 0, 1)]
        kept = as_lists(program)
        self.assertEqual(effect(HALVES, kept), effect(HALVES, tuple(program)))
        self.assertEqual(kept, as_lists(program))

    def test_new_lists_of_new_tuples(self):
        program = [("set", A, 5), ("copy", B, A)]
        told = effect(HALVES, program)
        self.assertIs(told.__class__, list)
        for thing in told:
            self.assertIs(thing.__class__, tuple)
        self.assertTrue(share_nothing(told, effect(HALVES, program)))
        self.assertEqual(len(inner_rows(told)), len({id(row) for row in inner_rows(told)}))
        self.assertTrue(share_nothing(effect(PAIR, []), effect(PAIR, [])))

    def test_bad_programs(self):
        self.refused(lambda program: effect(ONE, program))


class FollowedTest(Case):
    def test_one_after_another(self):
        for first, second in [([("set", A, 5)], [("copy", B, A)]), ([("copy", B, A)], [("set", A, 5)]),
                              ([("shift", B, -1)], [("swap", A, B), ("shift", A, 2)]), ([], [("swap", A, B)]),
                              ([("swap", A, B)], []), ([], []), ([("swap", A, B)], [("swap", A, B)])]:
            wanted = effect(HALVES, first + second)
            self.assertEqual(followed(effect(HALVES, first), effect(HALVES, second)), wanted)

    def test_the_first_one_runs_first(self):
        first, second = [("is", 1), ("bit", 0)], [("bit", 1), ("is", 0)]
        self.assertEqual(followed(first, second), [("bit", 0), ("is", 0)])
        self.assertEqual(followed(second, first), [("is", 1), ("bit", 1)])

    def test_of_nothing(self):
        self.assertEqual(followed([], []), [])

    def test_lists_in_the_place_of_tuples(self):
        made = followed(([["is", 1], ["bit", 0]]), (["bit", 1], ["is", 0]))
        self.assertEqual(made, [("bit", 0), ("is", 0)])
        for thing in made:
            self.assertIs(thing.__class__, tuple)

    def test_what_was_passed_stays_and_is_not_given_back(self):
        first, second = effect(HALVES, [("set", A, 5)]), effect(HALVES, [("copy", B, A), ("set", A, 1)])
        kept = copy.deepcopy((first, second))
        made = followed(first, second)
        self.assertIs(made.__class__, list)
        self.assertTrue(share_nothing(made, (first, second)))
        self.assertTrue(share_nothing(made, followed(first, second)))
        made.clear()
        self.assertEqual((first, second), kept)


class SameEffectTest(Case):
    def test_the_example_of_point_32(self):
        layout = struct([("a", ("int", 2, False)), ("b", ("int", 2, False))])
        self.assertEqual(same_effect(layout, [("swap", ("a",), ("b",))], [("copy", ("a",), ("b",))]), [0, 0, 0, 1])
        self.assertEqual(run(layout, [("swap", ("a",), ("b",))], [0, 0, 0, 1]), [0, 1, 0, 0])
        self.assertEqual(run(layout, [("copy", ("a",), ("b",))], [0, 0, 0, 1]), [0, 1, 0, 1])

    def test_the_same(self):
        for layout, one, two in [
            (PAIR, [], ()),
            (PAIR, [("swap", A, B)], [("swap", B, A)]),
            (PAIR, [("swap", A, B)] * 2, ()),
            (PAIR, [("copy", A, B), ("copy", B, A)], [("copy", A, B)]),
            (PAIR, [("move", 0, 2, 2)], [("copy", A, B)]),
            (HALVES, [("shift", A, 4)], [("set", A, 16)]),
            (HALVES, [("shift", B, -1), ("shift", B, -2)], [("shift", B, -100)]),
            (ONE, [("turn", A)], []),
            (ONE, [("set", A, 255)], [("set", A, -1)]),
            (EMPTY, [], []),
        ]:
            self.assertIsNone(same_effect(layout, one, two), (one, two))
            self.assertIsNone(same_effect(layout, two, one), (one, two))

    def test_a_bit_that_is_known_to_both(self):
        self.assertEqual(same_effect(PAIR, [("set", A, 5)], [("set", A, 4)]), [0, 0, 0, 0])

    def test_a_bit_that_is_1(self):
        self.assertEqual(same_effect(PAIR, [("set", B, 1)], [("set", B, 0), ("copy", B, A)]), [0, 0, 0, 0])
        self.assertEqual(same_effect(ONE, [("set", A, -1)], []), [0])
        self.assertEqual(same_effect(ONE, [], [("set", A, -1)]), [0])

    def test_a_bit_that_is_0(self):
        self.assertEqual(same_effect(ONE, [("set", A, 0)], []), [1])
        self.assertEqual(same_effect(ONE, [], [("shift", A, 1), ("shift", A, -1)]), [128])
        self.assertEqual(same_effect(PAIR, [("set", A, 0)], []), [0, 1, 0, 0])
        self.assertEqual(same_effect(PAIR, [("set", B, 0)], []), [0, 0, 0, 1])
        self.assertEqual(same_effect(HALVES, [("set", B, 0)], []), [16])

    def test_memories_are_ordered_as_lists(self):
        # Bit 15 lies in a later octet than bit 0, so its memory is the lesser one.
        layout = struct([("a", I1, 1), ("p", I1, 7), ("q", I1, 7), ("b", I1, 1)])
        self.assertEqual(same_effect(layout, [("set", A, 0), ("set", B, 0)], []), [0, 128])
        self.assertEqual(same_effect(layout, [("set", A, 0)], []), [1, 0])
        self.assertEqual(same_effect(layout, [("copy", A, B)], []), [0, 128])
        self.assertEqual(same_effect(layout, [("set", A, 0), ("set", ("p",), 0)], []), [1, 0])
        self.assertEqual(same_effect(layout, [("set", ("q",), 0), ("set", B, 0)], []), [0, 1])

    def test_bits_that_come_from_unlike_ones(self):
        self.assertEqual(same_effect(ONE, [("shift", A, -1), ("shift", A, 1)], [("shift", A, 1), ("shift", A, -1)]), [1])
        big = struct([("a", I2), ("b", I2)], ends="big")
        self.assertEqual(same_effect(big, [("swap", A, B)], [("copy", A, B)]), [0, 0, 0, 1])
        self.assertEqual(same_effect(big, [("swap", A, B)], [("copy", B, A)]), [0, 0, 0, 1])
        self.assertEqual(same_effect(big, [("turn", A)], []), [0, 1, 0, 0])

    def test_the_great_ones(self):
        program = [("swap", ("a", 0), ("a", 3)), ("swap", ("b", 0), ("b", 31))] * 6
        self.assertIsNone(same_effect(GREAT, program, []))
        self.assertEqual(same_effect(GREAT, program, program[:11]), [0] * 63 + [1])
        self.assertEqual(same_effect(GREAT, program, program[1:]), [0] * 31 + [1] + [0] * 32)

    def test_a_new_list_each_time(self):
        for one, two in [([("set", A, 1)], []), ([("set", A, 0)], [])]:
            self.assertIs(same_effect(ONE, one, two).__class__, list)
            self.assertIsNot(same_effect(ONE, one, two), same_effect(ONE, one, two))

    def test_bad_programs(self):
        self.refused(lambda program: same_effect(ONE, program, []))
        self.refused(lambda program: same_effect(ONE, [], program))

    def test_the_first_one_that_is_wrong(self):
        with self.assertRaises(BadProgram) as caught:
            same_effect(ONE, [("turn", A), 5], [5])
        self.assertEqual(caught.exception.place, 1)
        with self.assertRaises(BadProgram) as caught:
            same_effect(ONE, [("turn", A), 5], None)
        self.assertEqual(caught.exception.place, 1)
        with self.assertRaises(BadProgram) as caught:
            same_effect(ONE, None, [5])
        self.assertIsNone(caught.exception.place)


class LostTest(Case):
    def test_none(self):
        for program in ([], [("swap", A, B)], [("turn", A), ("turn", B)], [("move", 0, 0, 4)]):
            self.assertEqual(lost(PAIR, program), [])
        self.assertEqual(lost(EMPTY, []), [])

    def test_some(self):
        self.assertEqual(lost(PAIR, [("copy", A, B)]), list(range(16)))
        self.assertEqual(lost(PAIR, [("set", B, 7)]), list(range(16, 32)))
        self.assertEqual(lost(ONE, [("shift", A, 3)]), [5, 6, 7])
        self.assertEqual(lost(ONE, [("shift", A, -3)]), [0, 1, 2])
        self.assertEqual(lost(SIGNED, [("shift", A, -100)]), list(range(7)))
        self.assertEqual(lost(ONE, [("shift", A, -100)]), list(range(8)))
        self.assertEqual(lost(PAIR, [("move", 1, 0, 3)]), list(range(24, 32)))
        self.assertEqual(lost(struct([("a", I2, 9)], ends="big"), [("set", A, 0)]), [0, 1, 2, 3, 4, 5, 6, 7, 15])

    def test_what_is_elsewhere_is_not_lost(self):
        self.assertEqual(lost(PAIR, [("copy", A, B), ("set", B, 0)]), list(range(16)))
        self.assertEqual(lost(PAIR, [("swap", A, B), ("set", A, 0)]), list(range(16, 32)))

    def test_bits_in_holes(self):
        layout = struct([("a", I1), ("b", I2)])
        self.assertEqual(lost(layout, [("set", A, 0), ("set", B, 0)]), [*range(8), *range(16, 32)])
        self.assertEqual(lost(layout, [("move", 1, 0, 1)]), list(range(8, 16)))

    def test_a_new_list_each_time(self):
        self.assertIsNot(lost(ONE, []), lost(ONE, []))
        self.assertIs(lost(ONE, [("set", A, 0)]).__class__, list)

    def test_bad_programs(self):
        self.refused(lambda program: lost(ONE, program))


class MateTest(Case):
    def test_the_example_of_point_32(self):
        layout = struct([("a", ("int", 2, False)), ("b", ("int", 2, False))])
        self.assertEqual(mate(layout, [("copy", ("a",), ("b",))], [0, 0, 5, 5]), [0, 1, 5, 5])

    def test_the_least_other_one(self):
        self.assertEqual(mate(PAIR, [("copy", A, B)], [0, 1, 5, 5]), [0, 0, 5, 5])
        self.assertEqual(mate(PAIR, [("copy", A, B)], [7, 0, 5, 5]), [0, 0, 5, 5])
        self.assertEqual(mate(PAIR, [("set", B, 5)], [1, 2, 3, 4]), [1, 2, 0, 0])
        self.assertEqual(mate(PAIR, [("set", B, 5)], [1, 2, 0, 0]), [1, 2, 0, 1])
        self.assertEqual(mate(ONE, [("shift", A, 3)], [0b10110101]), [0b00010101])
        self.assertEqual(mate(ONE, [("shift", A, 3)], [0b00010101]), [0b00110101])
        self.assertEqual(mate(ONE, [("shift", A, -3)], [0b10110000]), [0b10110001])

    def test_memories_are_ordered_as_lists(self):
        layout = struct([("a", I1, 1), ("p", I1, 7), ("q", I1, 7), ("b", I1, 1)])
        self.assertEqual(mate(layout, [("set", A, 0), ("set", B, 0)], [2, 3]), [2, 131])
        self.assertEqual(mate(layout, [("set", A, 1), ("set", B, 1)], [3, 3]), [2, 3])
        self.assertEqual(mate(layout, [("set", ("p",), 1), ("set", A, 1)], [0, 9]), [1, 9])

    def test_none(self):
        for program in ([], [("swap", A, B)], [("turn", A)]):
            self.assertIsNone(mate(PAIR, program, [1, 2, 3, 4]))
        self.assertIsNone(mate(EMPTY, [], []))

    def test_the_great_ones(self):
        octets = list(range(100, 164))
        self.assertEqual(mate(GREAT, [("move", 1, 0, 63)], octets), octets[:63] + [0])
        self.assertEqual(mate(GREAT, [("move", 1, 0, 63)], octets[:63] + [0]), octets[:63] + [1])

    def test_a_new_list_and_what_was_passed_stays(self):
        octets = [0, 0, 5, 5]
        made = mate(PAIR, [["copy", ["a"], ["b"]]], octets)
        self.assertIs(made.__class__, list)
        made[0] = 9
        self.assertEqual(octets, [0, 0, 5, 5])
        self.assertEqual(mate(PAIR, (("copy", A, B),), (0, 0, 5, 5)), [0, 1, 5, 5])

    def test_bad_octet(self):
        for thing in [256, -1, 2 ** 70, -2 ** 70, PAIR, (3,), *NO_INTEGERS]:
            for octets in ([1, 2, thing, 4], [thing], (0, 0, 0, 0, thing, -5)):
                for program in ([], None, [5]):
                    with self.assertRaises(BadOctet) as caught:
                        mate(PAIR, program, octets)
                    self.assertIs(caught.exception.value, thing)

    def test_bad_size(self):
        for octets in ([], [1], [1, 2, 3], (1, 2, 3, 4, 5)):
            for program in ([], None, [5]):
                with self.assertRaises(BadSize) as caught:
                    mate(PAIR, program, octets)
                self.assertEqual(caught.exception.many, len(octets))

    def test_bad_programs(self):
        self.refused(lambda program: mate(ONE, program, [1]))


class TurnedBackTest(Case):
    def test_back(self):
        self.assertEqual(turned_back(PAIR, [("swap", A, B)]), bits(*range(16, 32), *range(16)))
        self.assertEqual(turned_back(ONE, []), bits(*range(8)))
        self.assertEqual(turned_back(EMPTY, []), [])

    def test_another_effect_than_that_of_the_program(self):
        layout = struct([("r", ("array", I1, 3))])
        program = [("swap", ("r", 0), ("r", 1)), ("swap", ("r", 1), ("r", 2))]
        self.assertEqual(effect(layout, program), bits(*range(8, 24), *range(8)))
        self.assertEqual(turned_back(layout, program), bits(*range(16, 24), *range(16)))

    def test_it_leads_each_result_back(self):
        layout = struct([("a", I4), ("b", I2), ("c", I2), ("d", ("array", I1, 8))], ends="big")
        program = [("turn", A), ("swap", B, C), ("swap", A, A), ("swap", ("d", 3), ("d", 5)), ("turn", C),
                   ("swap", ("d", 5), ("d", 6)), ("swap", C, B), ("swap", ("d", 0), ("d", 3))]
        back = turned_back(layout, program)
        for octets in (list(range(50, 66)), [255, 0] * 8, [1] + [0] * 15):
            self.assertEqual(plain_effect_on(back, run(layout, program, octets)), octets)
        self.assertEqual(followed(effect(layout, program), back), effect(layout, []))
        self.assertEqual(followed(back, effect(layout, program)), effect(layout, []))

    def test_none_if_a_bit_is_lost(self):
        for program in ([("copy", A, B)], [("set", A, 0)], [("shift", A, 1)], [("shift", B, -1)], [("move", 0, 1, 1)],
                        [("swap", A, B), ("shift", A, 1), ("swap", A, B)]):
            self.assertIsNone(turned_back(PAIR, program))

    def test_new_lists_of_new_tuples(self):
        one, two = turned_back(PAIR, [("swap", A, B)]), turned_back(PAIR, [("swap", A, B)])
        self.assertIs(one.__class__, list)
        for thing in one:
            self.assertIs(thing.__class__, tuple)
        self.assertTrue(share_nothing(one, two))

    def test_bad_programs(self):
        self.refused(lambda program: turned_back(ONE, program))


class InterfaceTest(unittest.TestCase):
    def test_names_and_parameters(self):
        for name, wanted in {"effect": "layout program", "followed": "first second", "same_effect": "layout one two",
                             "lost": "layout program", "mate": "layout program octets",
                             "turned_back": "layout program"}.items():
            told = getattr(effects, name)
            self.assertEqual(told.__module__, "fieldberth.effects")
            self.assertEqual(list(inspect.signature(told).parameters), wanted.split())

    def test_by_keyword(self):
        self.assertEqual(effect(program=[], layout=EMPTY), [])
        self.assertEqual(followed(second=[], first=[]), [])
        self.assertIsNone(same_effect(two=[], one=[], layout=EMPTY))
        self.assertEqual(lost(program=[], layout=EMPTY), [])
        self.assertIsNone(mate(octets=[], program=[], layout=EMPTY))
        self.assertEqual(turned_back(program=[], layout=EMPTY), [])

    def test_unions(self):
        layout = union([("a", I2), ("b", S2, 9), ("c", ("array", I1, 2))])
        self.assertEqual(effect(layout, [("copy", ("c", 1), B)]), bits(*range(8), *range(8)))
        self.assertEqual(same_effect(layout, [("copy", ("c", 0), A)], []), None)
        self.assertEqual(effect(layout, [("shift", B, -4)]), bits(4, 5, 6, 7, 8, 8, 8, 8, 8, *range(9, 16)))


if __name__ == "__main__":
    unittest.main()
