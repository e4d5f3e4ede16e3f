"""Points 2, 3, 4, 5, 8, 30 and 32: the order of members with the least size."""

import copy
import inspect
import itertools
import unittest

from fieldberth import orders
from fieldberth.errors import BadBits, BadKind, BadMember, BadName, BadOption
from fieldberth.layouts import struct, union
from fieldberth.orders import least_order
from tests.plain import NO_INTEGERS, Numbers, as_lists, share_nothing

I1 = ("int", 1, False)
S1 = ("int", 1, True)
I2 = ("int", 2, False)
I4 = ("int", 4, False)
I8 = ("int", 8, False)

OPTIONS = [{"convention": convention, "pack": pack, "align": align, "ends": ends}
           for convention in ("sysv", "msvc") for pack in (None, 1, 2, 4, 8, 16) for align in (None, 1, 2, 4, 8, 16, 32)
           for ends in ("little", "big")]


def by_trying(members, **options):
    """The least pair (size, order), every structure being made."""
    return min((struct([members[place] for place in order], **options).size, list(order))
               for order in itertools.permutations(range(len(members))))


class LeastOrderTest(unittest.TestCase):
    def test_the_example_of_point_32(self):
        self.assertEqual(least_order([("a", ("int", 1, True)), ("b", ("int", 4, True)), ("c", ("int", 1, True)),
                                      ("d", ("int", 2, True))]), (8, [0, 2, 3, 1]))

    def test_no_members(self):
        self.assertEqual(least_order([]), (0, []))
        self.assertEqual(least_order((), align=32), (0, []))
        self.assertEqual(least_order([], convention="msvc", pack=1, align=16, ends="big"), (0, []))

    def test_one_member(self):
        self.assertEqual(least_order([("a", I4)]), (4, [0]))
        self.assertEqual(least_order([("a", I4)], align=8), (8, [0]))
        self.assertEqual(least_order([(None, I4, 0)]), (0, [0]))

    def test_the_passed_order_is_the_least_one_where_all_are_alike(self):
        self.assertEqual(least_order([("a", I4), ("b", I4), ("c", I4)]), (12, [0, 1, 2]))
        self.assertEqual(least_order([("a", I1), ("b", I2), ("c", I4), ("d", I8), ("e", I8), ("f", I8)], pack=1),
                         (31, [0, 1, 2, 3, 4, 5]))

    def test_the_least_of_several(self):
        self.assertEqual(least_order([("a", I1), ("b", I2), ("c", I1)]), (4, [0, 2, 1]))
        self.assertEqual(least_order([("a", I2), ("b", I1), ("c", I1)]), (4, [0, 1, 2]))
        self.assertEqual(least_order([("a", I4), ("b", I1), ("c", I4), ("d", I1)]), (12, [0, 1, 3, 2]))
        self.assertEqual(least_order([("a", I8), ("b", I1), ("c", I2), ("d", I4)]), (16, [0, 1, 2, 3]))
        self.assertEqual(least_order([("a", I1), ("b", I8), ("c", I1), ("d", I8), ("e", I1), ("f", I8)]),
                         (32, [0, 2, 4, 1, 3, 5]))

    def test_bit_fields_by_system_v(self):
        members = [("a", I1, 5), ("b", I1, 5), ("c", I1, 3), ("d", I1, 3)]
        self.assertEqual(struct(members).size, 3)
        self.assertEqual(least_order(members), (2, [0, 2, 1, 3]))
        self.assertEqual(least_order(members, pack=1), (2, [0, 1, 2, 3]))
        # Behind one bit a whole octet would begin at the next one.
        self.assertEqual(least_order([("a", I1, 1), ("b", I1), ("c", I1, 7)]), (2, [0, 2, 1]))
        self.assertEqual(least_order([("a", I4, 3), ("b", I1)]), (4, [0, 1]))

    def test_bit_fields_by_msvc(self):
        members = [("a", I1, 1), ("b", I2, 1), ("c", I1, 1), ("d", I2, 1)]
        self.assertEqual(struct(members, convention="msvc").size, 8)
        self.assertEqual(least_order(members, convention="msvc"), (4, [0, 2, 1, 3]))
        self.assertEqual(least_order(members, convention="sysv"), (2, [0, 1, 2, 3]))
        self.assertEqual(least_order(members, convention="msvc", pack=1), (3, [0, 2, 1, 3]))
        members = [("a", I4, 20), ("b", I4, 20), ("c", I4, 12), ("d", I4, 12)]
        self.assertEqual(least_order(members, convention="msvc"), (8, [0, 2, 1, 3]))

    def test_fields_of_no_bits(self):
        members = [("a", I1, 4), (None, I1, 0), ("b", I1, 4)]
        for convention in ("sysv", "msvc"):
            self.assertEqual(struct(members, convention=convention).size, 2)
            self.assertEqual(least_order(members, convention=convention), (1, [0, 2, 1]))
        # Ahead of all others a field of no bits does nothing; behind them it fills up.
        self.assertEqual(least_order([("a", I1), (None, I4, 0)]), (1, [1, 0]))
        self.assertEqual(least_order([("a", I1), (None, I4, 0)], convention="msvc"), (1, [0, 1]))

    def test_fields_without_a_name(self):
        self.assertEqual(least_order([("a", I1), (None, I4, 9), ("b", I1)]), (4, [0, 1, 2]))
        self.assertEqual(least_order([("a", I1), (None, I4, 9), ("b", I1)], convention="msvc"), (8, [0, 2, 1]))

    def test_arrays_and_layouts(self):
        pair = struct([("x", I4), ("y", I1)])
        members = [("a", I1), ("b", ("array", I2, 3)), (None, pair), ("d", ("array", I8, 0)), ("e", I1)]
        self.assertEqual(least_order(members), by_trying(members))
        self.assertEqual(least_order([("a", I1), ("b", ("array", I2, 3)), ("c", I1)]), (8, [0, 2, 1]))
        self.assertEqual(least_order([("a", I1), (None, pair), ("c", I1)]), (12, [0, 2, 1]))
        self.assertEqual(least_order([("a", I1), (None, union([("x", I8), ("y", I1)])), ("c", I4)]), (16, [0, 2, 1]))

    def test_all_options(self):
        members = [("a", I1), ("b", I8), ("c", I4, 3), ("d", I1, 7), ("e", I4, 30)]
        for options in OPTIONS:
            self.assertEqual(least_order(members, **options), by_trying(members, **options), options)

    def test_options_count(self):
        members = [("a", I1), ("b", I8), ("c", I1), ("d", I4)]
        self.assertEqual(least_order(members), (16, [0, 2, 3, 1]))
        self.assertEqual(least_order(members, pack=1), (14, [0, 1, 2, 3]))
        self.assertEqual(least_order(members, pack=2), (14, [0, 2, 1, 3]))
        self.assertEqual(least_order(members, pack=4), (16, [0, 2, 1, 3]))
        self.assertEqual(least_order(members, align=32), (32, [0, 1, 2, 3]))
        self.assertEqual(least_order(members, pack=1, align=16), (16, [0, 1, 2, 3]))
        self.assertEqual(least_order(members, ends="big"), (16, [0, 2, 3, 1]))

    def test_made_up_members(self):
        numbers = Numbers(31)
        kinds = [I1, I2, I4, I8, S1, ("array", I1, 3), ("array", I2, 0), struct([("x", I2), ("y", I1)]),
                 struct([("x", I4, 3)], pack=1), union([("x", I8, 12)], align=2)]
        for k in range(120):
            members = []
            for place in range(numbers.below(6)):
                kind = numbers.one_of(kinds)
                if isinstance(kind, tuple) and kind[0] == "int":
                    many = numbers.below(8 * kind[1] + 1)
                    members.append(numbers.one_of([("m" + str(place), kind), (None, kind, many),
                                                   ("m" + str(place), kind, max(1, many))]))
                else:
                    members.append(("m" + str(place), kind))
            options = numbers.one_of(OPTIONS)
            self.assertEqual(least_order(members, **options), by_trying(members, **options), (members, options))

    def test_six_members_of_the_greatest_layouts(self):
        rows = [("array", I1, 64), ("array", struct([("x", I1), ("y", I2)]), 20), ("array", I8, 8)]
        members = [("m" + str(place), kind) for place, kind in enumerate([I1, I4, I1, *rows])]
        self.assertEqual(least_order(members), (216, [0, 2, 1, 3, 4, 5]))

    def test_lists_in_the_place_of_tuples(self):
        members = [("a", I1), ("b", ("array", I4, 1)), ("c", I1, 3)]
        for other in (tuple(members), as_lists(members)):
            kept = copy.deepcopy(other)
            self.assertEqual(least_order(other), (8, [0, 2, 1]))
            self.assertEqual(other, kept)

    def test_a_pair_with_a_new_list(self):
        one, two = least_order([("a", I1), ("b", I2)]), least_order([("a", I1), ("b", I2)])
        self.assertIs(one.__class__, tuple)
        self.assertIs(one[1].__class__, list)
        self.assertTrue(share_nothing(one, two))


class ErrorsTest(unittest.TestCase):
    def refused(self, error, field, wanted, members, **options):
        with self.assertRaises(error) as caught:
            least_order(members, **options)
        value = getattr(caught.exception, field)
        self.assertTrue(value is wanted or (value == wanted and value.__class__ == wanted.__class__), (value, wanted))

    def test_bad_options(self):
        good = [("a", I1)]
        for members in (good, [5], [("a", I1), ("a", I1)]):
            for value in ("gcc", "", None, 1, True, [], "SYSV", ("sysv",)):
                self.refused(BadOption, "name", "convention", members, convention=value, pack=3, align=3, ends="x")
            for value in (3, 0, -1, 32, True, False, "1", [], (1,), 2 ** 70):
                self.refused(BadOption, "name", "pack", members, pack=value, align=3, ends="x")
            for value in (3, 0, -1, 64, True, False, "1", [], (1,), 2 ** 70):
                self.refused(BadOption, "name", "align", members, align=value, ends="x")
            for value in ("", None, "Little", 1, True, [], ("big",)):
                self.refused(BadOption, "name", "ends", members, ends=value)

    def test_bad_members(self):
        for thing in [*NO_INTEGERS, 5, "ab", ("a",), ("a", I1, 1, 1), ("1", I1), ("", I1), ("a-b", I1), (5, I1),
                      (None, I1), (None, ("array", I1, 1)), ("a", ("array", I1, 1), 1), ("a", struct([]), 1)]:
            self.refused(BadMember, "place", 0, [thing])
            self.refused(BadMember, "place", 1, [("b", I1), thing, ("c", I1, 9), thing])

    def test_bad_kinds(self):
        inner = ["int", 3, True]
        self.refused(BadKind, "kind", 5, [("a", ("array", 5, 2))])
        for kind in (inner, None, ("int", 1), ("int", 1, 1), ("array", I1, -1), ("array", I1), "int", {}):
            self.refused(BadKind, "kind", kind, [("b", I1), ("a", kind), ("c", I1, 9)])
            self.refused(BadKind, "kind", kind, [("a", ("array", kind, 1))])

    def test_bad_bits(self):
        for many in (-1, 9, True, None, "1", [1], 2 ** 70, 0):
            self.refused(BadBits, "place", 1, [("b", I1), ("a", I1, many), ("b", I1)])
        self.refused(BadBits, "place", 0, [(None, I1, 9)])

    def test_bad_names(self):
        self.refused(BadName, "name", "a", [("a", I1), ("b", I1), ("a", I2), ("b", I2)])
        self.refused(BadName, "name", "b", [("a", I1), ("b", I1), (None, struct([("c", I1), ("b", I1), ("a", I1)]))])
        # As the members are passed, not as they are ordered.
        self.refused(BadName, "name", "b", [("a", I8), ("b", I1), ("b", I8), ("a", I1)])

    def test_the_first_place_that_is_wrong(self):
        self.refused(BadMember, "place", 1, [("a", I8), 5, 6, ("c", I1, 9)])
        self.refused(BadBits, "place", 1, [("a", I8), ("c", I1, 9), 5])


class InterfaceTest(unittest.TestCase):
    def test_names_and_parameters(self):
        self.assertEqual(least_order.__module__, "fieldberth.orders")
        self.assertIs(orders.least_order, least_order)
        self.assertEqual(str(inspect.signature(least_order)),
                         "(members, *, convention='sysv', pack=None, align=None, ends='little')")

    def test_by_keyword(self):
        self.assertEqual(least_order(ends="big", align=4, pack=2, convention="msvc", members=[("a", I1)]), (4, [0]))
        with self.assertRaises(TypeError):
            least_order([("a", I1)], "sysv")


if __name__ == "__main__":
    unittest.main()
