"""Points 3 to 8 and 34: what can be declared, and the errors in their order."""

import inspect
import unittest

from fieldberth import layouts
from fieldberth.errors import BadBits, BadKind, BadMember, BadName, BadOption
from fieldberth.layouts import Layout, struct, union

I1 = ("int", 1, False)
I2 = ("int", 2, False)
I4 = ("int", 4, True)
ODD_THINGS = [None, True, False, 0, 5, -1, 2 ** 70, "", "int", "abc", [], (), {}, {"int": 4}, [[]], ((),)]


class Case(unittest.TestCase):
    def raised(self, error, field, members, **options):
        """What structures and unions raise for members: the same by both conventions."""
        kept = []
        for make in (struct, union):
            with self.assertRaises(error) as caught:
                make(members, **options)
            kept.append(getattr(caught.exception, field))
        self.assertIs(kept[0], kept[1])
        return kept[0]


class KindsTest(Case):
    def test_integer_kinds(self):
        for size in (1, 2, 4, 8):
            for signed in (False, True):
                layout = struct([("a", ("int", size, signed))])
                self.assertEqual((layout.size, layout.alignment), (size, size))
                self.assertIs(layout.berth(("a",))[1], signed)

    def test_no_integer_kinds(self):
        for kind in [("int", 0, True), ("int", 3, True), ("int", 16, True), ("int", -4, True), ("int", 2 ** 70, True),
                     ("int", True, True), ("int", "4", True), ("int", None, True), ("int", [4], True),
                     ("int", 4, 1), ("int", 4, 0), ("int", 4, None), ("int", 4, "True"), ("int", 4, [True]),
                     ("int", 4), ("int",), ("int", 4, True, 3), ("Int", 4, True), (None, 4, True), (["int"], 4, True),
                     ("int", True, 4), (4, "int", True), ["int", 4, 2], ["int", 5, True], ("int", I4, True)]:
            self.assertIs(self.raised(BadKind, "kind", [("a", kind)]), kind)

    def test_other_objects(self):
        for thing in ODD_THINGS:
            self.assertIs(self.raised(BadKind, "kind", [("a", thing)]), thing)

    def test_what_is_left_out_is_no_kind(self):
        for kind in [("bool", 1, False), ("char", 1, True), ("float", 4, True), ("float", 8), ("pointer", I4, 8),
                     ("pointer", I4), ("int", 16, False), "int", "int32", ("array", I4, None), ("array", I4),
                     ("bits", 4, True, 3), ("bits", 4, True), ("struct", [], True), ("long", 8, True)]:
            self.assertIs(self.raised(BadKind, "kind", [("a", kind)]), kind)

    def test_array_kinds(self):
        self.assertEqual(struct([("a", ("array", I2, 5))]).size, 10)
        self.assertEqual(struct([("a", ("array", ("array", I2, 5), 3))]).size, 30)
        self.assertEqual(struct([("a", ("array", struct([("x", I1)]), 3))]).size, 3)
        self.assertEqual(struct([("a", ("array", I2, 0))]).size, 0)

    def test_no_array_kinds(self):
        for kind in [("array", 5, -1), ("array", I4, -1), ("array", I4, True), ("array", I4, None), ("array", I4, "2"),
                     ("array", I4, [2]), ("array", I4), ("array",), ("array", I4, 2, 2), ("Array", I4, 2),
                     ("array", 2, I4), ["array", I4, False], (["array"], I4, 2), ("array", 5, -2 ** 70)]:
            self.assertIs(self.raised(BadKind, "kind", [("a", kind)]), kind)

    def test_the_whole_array_kind_is_looked_at_first(self):
        self.assertEqual(self.raised(BadKind, "kind", [("a", ("array", 5, 2))]), 5)
        self.assertEqual(self.raised(BadKind, "kind", [("a", ("array", 5, -1))]), ("array", 5, -1))

    def test_the_kind_within_is_looked_at_likewise(self):
        for thing in ODD_THINGS:
            self.assertIs(self.raised(BadKind, "kind", [("a", ("array", thing, 0))]), thing)
        wrong = ("array", ("nothing",), "many")
        self.assertIs(self.raised(BadKind, "kind", [("a", ["array", ("array", wrong, 1), 0])]), wrong)
        inner = ["int", 4, 1]
        self.assertIs(self.raised(BadKind, "kind", [("a", ("array", ("array", inner, 1), 0))]), inner)

    def test_kinds_deep_within_one_another(self):
        kind = 5
        for level in range(48):
            kind = ("array", kind, 1)
        self.assertEqual(self.raised(BadKind, "kind", [("a", kind)]), 5)
        kind = I1
        for level in range(7):
            kind = ("array", kind, 1)
        self.assertEqual(struct([("a", kind)]).paths(), [("a", 0, 0, 0, 0, 0, 0, 0)])

    def test_lists_are_accepted(self):
        layout = struct((["a", ["array", ["int", 2, True], 2]], ["b", ["int", 1, False], 3]))
        self.assertEqual(layout.kind_at(("a",)), ("array", ("int", 2, True), 2))
        self.assertEqual(layout.kind_at(("b",)), ("bits", 1, False, 3))


class MembersTest(Case):
    def test_a_new_layout_at_each_call(self):
        members = [("a", I4)]
        for make in (struct, union):
            one, two = make(members), make(members)
            self.assertIsInstance(one, Layout)
            self.assertIsNot(one, two)
            self.assertNotEqual(one, two)
            self.assertEqual(one, one)

    def test_names(self):
        for name in ("a", "Z", "_", "__", "a1", "_1", "aB_9", "x" * 100, "int", "None"):
            self.assertEqual(struct([(name, I1)]).paths(), [(name,)])
            self.assertEqual(struct([(name, I1, 3)]).paths(), [(name,)])

    def test_no_names(self):
        for name in ["", "1", "1a", "a b", " a", "a ", "a-b", "a.b", "~", "$", "a!", "@", "[", "`", "{", "/", ":",
                     True, False, 0, 7, [], ["a"], ("a",), {}, {"a": 1}]:
            for member in [(name, I1), (name, I1, 3), (name, struct([])), [name, I1]]:
                self.assertEqual(self.raised(BadMember, "place", [("ok", I1), member]), 1)

    def test_no_members(self):
        for member in [None, True, 5, "", "a", "ab", "abc", [], (), ("a",), ["a"], ("a", I1, 3, 4), {}, {"a": I1},
                       {"a": 1, "b": 2}, struct([]), (I1, "a"), (None,)]:
            self.assertEqual(self.raised(BadMember, "place", [("ok", I1), ("ok2", I1), member]), 2)

    def test_the_name_is_looked_at_before_the_kind(self):
        self.assertEqual(self.raised(BadMember, "place", [("1", 5)]), 0)
        self.assertEqual(self.raised(BadMember, "place", [("1", 5, -1)]), 0)

    def test_the_kind_is_looked_at_before_what_kind_it_is(self):
        self.assertEqual(self.raised(BadKind, "kind", [(None, 5)]), 5)
        self.assertEqual(self.raised(BadKind, "kind", [("a", 5, -1)]), 5)
        self.assertEqual(self.raised(BadKind, "kind", [("a", ("array", 6, 1), -1)]), 6)
        self.assertEqual(self.raised(BadKind, "kind", [(None, ("array", 6, 1))]), 6)

    def test_bit_fields_of_other_kinds(self):
        for kind in [("array", I1, 2), ("array", I1, 0), struct([]), struct([("x", I1)]), union([])]:
            for name in ("a", None):
                for bits in (3, 0, -1, None, "x"):
                    self.assertEqual(self.raised(BadMember, "place", [("ok", I1), (name, kind, bits)]), 1)

    def test_without_a_name_only_bit_fields_and_layouts(self):
        for kind in [I1, I4, ("array", I1, 2), ("array", I1, 0), ("array", struct([]), 1)]:
            self.assertEqual(self.raised(BadMember, "place", [(None, kind)]), 0)
        struct([(None, I4, 3), (None, I4, 0), (None, struct([])), (None, union([]))])

    def test_bits(self):
        for size in (1, 2, 4, 8):
            for bits in (1, 8 * size - 1, 8 * size):
                self.assertEqual(struct([("a", ("int", size, True), bits)]).kind_at(("a",)), ("bits", size, True, bits))
            for bits in (0, 1, 8 * size):
                self.assertEqual(struct([(None, ("int", size, True), bits)]).paths(), [])

    def test_bad_bits(self):
        for size in (1, 2, 4, 8):
            for bits in [8 * size + 1, -1, 2 ** 70, -2 ** 70, None, True, False, "3", "", [], [3], (), {}, I1]:
                for name in ("a", None):
                    members = [("ok", I1), (name, ("int", size, False), bits)]
                    self.assertEqual(self.raised(BadBits, "place", members), 1)

    def test_a_field_of_no_bits_has_no_name(self):
        self.assertEqual(self.raised(BadBits, "place", [("a", I4, 0)]), 0)

    def test_each_member_is_looked_at_wholly_before_the_next_one(self):
        self.assertEqual(self.raised(BadBits, "place", [("a", I1, 9), ("1", 5), None]), 0)
        self.assertEqual(self.raised(BadKind, "kind", [("a", 5), None]), 5)
        self.assertEqual(self.raised(BadMember, "place", [(None, I1), ("b", 5)]), 0)
        self.assertEqual(self.raised(BadMember, "place", [("a", I1), None, ("b", 5)]), 1)


class NamesTest(Case):
    def test_a_name_twice(self):
        self.assertEqual(self.raised(BadName, "name", [("a", I1), ("b", I1), ("b", I1), ("a", I1)]), "b")
        self.assertEqual(self.raised(BadName, "name", [("a", I1), ("b", I1), ("a", I1, 3), ("b", I1)]), "a")

    def test_names_come_last(self):
        self.assertEqual(self.raised(BadMember, "place", [("a", I1), ("a", I1), None]), 2)
        self.assertEqual(self.raised(BadBits, "place", [("a", I1), ("a", I1), ("c", I1, 9)]), 2)

    def test_great_and_small_letters_differ(self):
        self.assertEqual(struct([("a", I1), ("A", I1)]).size, 2)

    def test_none_may_stand_often(self):
        self.assertEqual(struct([(None, I1, 3), (None, I1, 3), (None, struct([])), (None, struct([]))]).size, 1)

    def test_names_of_anonymous_layouts_count(self):
        inner = struct([("x", I1), ("y", I1)])
        self.assertEqual(self.raised(BadName, "name", [("y", I1), ("x", I1), (None, inner)]), "x")
        self.assertEqual(self.raised(BadName, "name", [(None, inner), ("y", I1), ("x", I1)]), "y")
        self.assertEqual(self.raised(BadName, "name", [(None, inner), (None, union([("z", I1), ("y", I1)]))]), "y")

    def test_names_of_anonymous_layouts_within_anonymous_ones_count(self):
        inner = struct([("z", I1), (None, union([("x", I1), ("y", ("array", I1, 0))])), ("w", I1)])
        self.assertEqual(self.raised(BadName, "name", [("w", I1), ("y", I1), (None, inner)]), "y")
        self.assertEqual(self.raised(BadName, "name", [(None, inner), (None, inner)]), "z")
        self.assertEqual(self.raised(BadName, "name", [(None, inner), ("w", I1), ("z", I1)]), "w")

    def test_names_in_layouts_with_a_name_do_not_count(self):
        inner = struct([("x", I1)])
        self.assertEqual(struct([("x", inner), ("y", inner)]).paths(), [("x", "x"), ("y", "x")])

    def test_names_without_integers_count(self):
        members = [("a", ("array", I1, 0)), ("a", struct([]))]
        self.assertEqual(self.raised(BadName, "name", members), "a")


class OptionsTest(Case):
    def test_choices(self):
        for make in (struct, union):
            for convention in ("sysv", "msvc"):
                self.assertEqual(make([], convention=convention).convention, convention)
            for ends in ("little", "big"):
                self.assertEqual(make([], ends=ends).ends, ends)
            for pack in (None, 1, 2, 4, 8, 16):
                self.assertEqual(make([("a", ("int", 8, True))], pack=pack).alignment, min(pack or 8, 8))
            for align in (None, 1, 2, 4, 8, 16, 32):
                self.assertEqual(make([("a", I2)], align=align).alignment, max(align or 2, 2))

    def test_without_options(self):
        for make in (struct, union):
            layout = make([("a", ("int", 8, True))])
            self.assertEqual((layout.convention, layout.ends, layout.alignment), ("sysv", "little", 8))

    def test_bad_convention(self):
        for thing in [None, True, 0, "", "gcc", "SYSV", "sysv ", ["sysv"], ("msvc",), {}, struct([])]:
            self.assertEqual(self.raised(BadOption, "name", [], convention=thing), "convention")

    def test_bad_pack(self):
        for thing in [True, False, 0, 3, 32, -1, 2 ** 70, "1", "", [1], (), {}, struct([])]:
            self.assertEqual(self.raised(BadOption, "name", [], pack=thing), "pack")

    def test_bad_align(self):
        for thing in [True, False, 0, 3, 64, -1, 2 ** 70, "1", "", [1], (), {}, struct([])]:
            self.assertEqual(self.raised(BadOption, "name", [], align=thing), "align")

    def test_bad_ends(self):
        for thing in [None, True, 0, "", "Big", "middle", ["big"], ("little",), {}, struct([])]:
            self.assertEqual(self.raised(BadOption, "name", [], ends=thing), "ends")

    def test_their_order(self):
        wrong = {"convention": 0, "pack": 0, "align": 0, "ends": 0}
        for name in ("convention", "pack", "align", "ends"):
            self.assertEqual(self.raised(BadOption, "name", [None], **wrong), name)
            del wrong[name]
        self.assertEqual(self.raised(BadMember, "place", [None], **wrong), 0)

    def test_the_signature(self):
        for make in (struct, union):
            self.assertEqual(str(inspect.signature(make)),
                             "(members, *, convention='sysv', pack=None, align=None, ends='little')")
            self.assertEqual(make.__module__, "fieldberth.layouts")
            self.assertEqual(make(members=[("a", I1)]).size, 1)
            with self.assertRaises(TypeError):
                make([], "msvc")

    def test_the_interface_is_defined_here(self):
        self.assertIs(layouts.Layout, Layout)
        self.assertEqual(Layout.__module__, "fieldberth.layouts")
        for name in ("size", "alignment", "convention", "ends"):
            self.assertIsInstance(vars(Layout)[name], property)
        self.assertEqual(list(inspect.signature(Layout.paths).parameters), ["self"])
        self.assertEqual(list(inspect.signature(Layout.holes).parameters), ["self"])
        for name in ("berth", "octet_at", "kind_at"):
            self.assertEqual(list(inspect.signature(vars(Layout)[name]).parameters), ["self", "path"])


def told(layout):
    """All that a layout tells, as it was at this moment."""
    berths = [layout.berth(path) for path in layout.paths()]
    kinds = [layout.kind_at(path[:k]) for path in layout.paths() for k in range(len(path) + 1)]
    return layout.size, layout.alignment, layout.paths(), berths, kinds, layout.holes()


class PassedTest(Case):
    def test_what_was_passed_stays_as_it_was(self):
        inner = struct([("x", I1)])
        members = [["a", ["array", ["int", 2, True], 2]], ["b", ["int", 4, True], 3], [None, inner], ("c", I1)]
        before = [["a", ["array", ["int", 2, True], 2]], ["b", ["int", 4, True], 3], [None, inner], ("c", I1)]
        inner_before = told(inner)
        for make in (struct, union):
            for convention in ("sysv", "msvc"):
                make(members, convention=convention, pack=1, ends="big", align=4)
        self.assertEqual(members, before)
        self.assertEqual(told(inner), inner_before)

    def test_later_changes_have_no_effect(self):
        kind = ["array", ["int", 2, True], 2]
        members = [["a", kind], ["b", ["int", 4, True], 3]]
        layout = struct(members)
        before = told(layout)
        kind[2] = 7
        kind[1][1] = 8
        members[1][0] = "z"
        members[1][1][2] = False
        members[1][2] = 9
        members.append(("more", I1))
        self.assertEqual(told(layout), before)

    def test_an_error_keeps_the_very_object(self):
        inner = ["int", 4, 7]
        self.assertIs(self.raised(BadKind, "kind", [["a", ["array", inner, 2]]]), inner)
        whole = ["array", inner, None]
        self.assertIs(self.raised(BadKind, "kind", [["a", whole]]), whole)


class LimitsTest(Case):
    def test_twelve_members_and_sixty_four_octets(self):
        names = ["m" + str(k) for k in range(12)]
        self.assertEqual(struct([(name, I4) for name in names]).size, 48)
        self.assertEqual(struct([("m" + str(k), ("int", 8, False)) for k in range(8)]).size, 64)

    def test_forty_integers(self):
        layout = struct([("a", ("array", I1, 40)), ("b", ("array", I2, 0))])
        self.assertEqual(len(layout.paths()), 40)
        self.assertEqual(layout.berth(("a", 39)), (tuple(range(312, 320)), False))

    def test_sixty_four_things(self):
        layout = struct([("a", ("array", struct([(None, I1, 8)]), 64)), ("b", ("array", struct([]), 64))])
        self.assertEqual((layout.size, layout.paths(), len(layout.holes())), (64, [], 512))

    def test_arrays_without_integers_are_not_gone_through(self):
        for kind in (struct([]), ("array", I4, 0)):
            for level in range(7):
                kind = ("array", kind, 64)
            layout = struct([("a", kind), ("b", I4)])
            self.assertEqual((layout.size, layout.alignment, layout.paths()), (4, 4, [("b",)]))
            self.assertEqual(layout.octet_at(("a",) + (63,) * 7), 0)

    def test_layouts_without_integers_within_one_another(self):
        layout = struct([])
        for level in range(7):
            layout = struct([("m" + str(k), layout) for k in range(12)])
        self.assertEqual((layout.size, layout.paths(), layout.holes()), (0, [], []))

    def test_eight_deep(self):
        layout = struct([("x", I2)], ends="big")
        for level in range(7):
            layout = struct([("pad", I1), ("in", layout)])
        self.assertEqual(layout.berth(("in",) * 7 + ("x",)), (tuple(range(120, 128)) + tuple(range(112, 120)), False))
        self.assertEqual(layout.size, 16)


if __name__ == "__main__":
    unittest.main()
