"""Points 3 and 14: paths, and what a layout tells of them."""

import unittest

from fieldberth.errors import BadPath
from fieldberth.layouts import struct, union

I1 = ("int", 1, False)
I2 = ("int", 2, True)
I4 = ("int", 4, False)

POINT = struct([("x", I1), ("y", I2, 5)])
CHOICE = union([("u", I4), (None, struct([("v", I2), (None, I2, 3), ("w", ("array", I1, 2))]))])
EMPTY = struct([])
MEMBERS = [
    ("a", I2),
    (None, I1, 4),
    ("f", I1, 3),
    ("rows", ("array", ("array", I1, 2), 2)),
    ("points", ("array", POINT, 2)),
    (None, CHOICE),
    ("none", ("array", I4, 0)),
    ("empty", EMPTY),
    ("last", CHOICE),
]
WHOLE = struct(MEMBERS)

INTEGERS = [
    ("a",),
    ("f",),
    ("rows", 0, 0),
    ("rows", 0, 1),
    ("rows", 1, 0),
    ("rows", 1, 1),
    ("points", 0, "x"),
    ("points", 0, "y"),
    ("points", 1, "x"),
    ("points", 1, "y"),
    ("u",),
    ("v",),
    ("w", 0),
    ("w", 1),
    ("last", "u"),
    ("last", "v"),
    ("last", "w", 0),
    ("last", "w", 1),
]
FIELDS = [("f",), ("points", 0, "y"), ("points", 1, "y")]
OTHERS = [
    (),
    ("rows",),
    ("rows", 0),
    ("rows", 1),
    ("points",),
    ("points", 0),
    ("points", 1),
    ("w",),
    ("none",),
    ("empty",),
    ("last",),
    ("last", "w"),
]
# What leads nowhere in WHOLE.
NOWHERE = [
    None, True, False, 0, 1, -1, 2 ** 70, "", "a", "rows", {}, {"a": 1}, WHOLE, EMPTY,
    ("b",), ("A",), ("",), ("a ",), (None,), (True,), (0,), (1,), ((),), ([],), ({},), (("a",),), (["a"],), ({"a": 1},),
    (EMPTY,), ["b"], [["a"]],
    ("a", 0), ("a", "x"), ("a", None), ("f", 0), ("f", ()), ("a", ()),
    ("rows", 2), ("rows", -1), ("rows", True), ("rows", False), ("rows", None), ("rows", "0"), ("rows", ""),
    ("rows", [0]), ("rows", (0,)), ("rows", {}), ("rows", 2 ** 70), ("rows", -2 ** 70), ("rows", 0, 2),
    ("rows", 0, True), ("rows", True, 0), ("rows", 0, 0, 0), ("rows", "x"),
    ("points", "x"), ("points", 0, 0), ("points", 0, "z"), ("points", 0, None), ("points", 2, "x"),
    ("points", 0, "x", 0), ("points", 0, "y", 0), ("points", False, "x"), ("points", False),
    (None, "u"), (None, "v"), (None, None, "v"), ("u", "v"), ("w", 2),
    ("none", 0), ("none", -1), ("none", False), ("empty", "a"), ("empty", 0), ("empty", None),
    ("last", None), ("last", None, "v"), ("last", "u", "u"), ("last", "a"), ("last", 0),
]


class Case(unittest.TestCase):
    def refused(self, ask, paths):
        for path in paths:
            with self.assertRaises(BadPath) as caught:
                ask(path)
            self.assertIs(caught.exception.path, path)


class PathsTest(Case):
    def test_all_integers_as_they_are_declared(self):
        self.assertEqual(WHOLE.paths(), INTEGERS)

    def test_of_unions(self):
        self.assertEqual(union(MEMBERS).paths(), INTEGERS)
        self.assertEqual(CHOICE.paths(), [("u",), ("v",), ("w", 0), ("w", 1)])

    def test_of_nothing(self):
        self.assertEqual(EMPTY.paths(), [])
        self.assertEqual(union([("e", EMPTY), ("n", ("array", I4, 0)), (None, I4, 5)]).paths(), [])

    def test_no_unnamed_field_and_no_empty_array(self):
        self.assertEqual(struct([(None, I4, 5), ("a", I1), (None, I4, 0), ("n", ("array", I4, 0))]).paths(), [("a",)])

    def test_arrays_of_one_thing_keep_their_index(self):
        self.assertEqual(struct([("a", ("array", ("array", I1, 1), 1))]).paths(), [("a", 0, 0)])

    def test_they_are_new_lists_of_tuples(self):
        paths = WHOLE.paths()
        self.assertIs(paths.__class__, list)
        for path in paths:
            self.assertIs(path.__class__, tuple)
        again = WHOLE.paths()
        self.assertIsNot(paths, again)
        for one, other in zip(paths, again):
            self.assertIsNot(one, other)
        paths.clear()
        self.assertEqual(WHOLE.paths(), INTEGERS)


class BerthTest(Case):
    def test_bits_and_sign(self):
        self.assertEqual(WHOLE.berth(("a",)), (tuple(range(16)), True))
        self.assertEqual(WHOLE.berth(("f",)), ((20, 21, 22), False))
        self.assertEqual(WHOLE.berth(("rows", 1, 0)), (tuple(range(40, 48)), False))
        self.assertEqual(WHOLE.berth(("points", 1, "y")), ((88, 89, 90, 91, 92), True))

    def test_of_anonymous_layouts(self):
        self.assertEqual(WHOLE.octet_at(("u",)), 12)
        self.assertEqual(WHOLE.berth(("u",)), (tuple(range(96, 128)), False))
        self.assertEqual(WHOLE.berth(("v",)), (tuple(range(96, 112)), True))
        self.assertEqual(WHOLE.berth(("w", 1)), (tuple(range(128, 136)), False))
        self.assertEqual(WHOLE.berth(("last", "w", 1)), (tuple(range(192, 200)), False))

    def test_it_is_a_pair_of_tuples(self):
        for path in INTEGERS:
            told = WHOLE.berth(path)
            self.assertIs(told.__class__, tuple)
            bits, signed = told
            self.assertIs(bits.__class__, tuple)
            self.assertIs(signed.__class__, bool)
            self.assertIsNot(told, WHOLE.berth(path))

    def test_a_path_may_be_a_list(self):
        for path in INTEGERS:
            passed = list(path)
            self.assertEqual(WHOLE.berth(passed), WHOLE.berth(path))
            self.assertEqual(passed, list(path))

    def test_by_keyword(self):
        self.assertEqual(WHOLE.berth(path=("f",)), ((20, 21, 22), False))

    def test_what_leads_to_no_integer(self):
        self.refused(WHOLE.berth, OTHERS)
        self.refused(WHOLE.berth, [list(path) for path in OTHERS])

    def test_what_leads_nowhere(self):
        self.refused(WHOLE.berth, NOWHERE)


class OctetTest(Case):
    def test_of_all_that_begin_at_an_octet(self):
        told = {path: WHOLE.octet_at(path) for path in OTHERS + INTEGERS if path not in FIELDS}
        self.assertEqual(told, {
            (): 0, ("a",): 0, ("rows",): 3, ("rows", 0): 3, ("rows", 0, 0): 3, ("rows", 0, 1): 4, ("rows", 1): 5,
            ("rows", 1, 0): 5, ("rows", 1, 1): 6, ("points",): 8, ("points", 0): 8, ("points", 0, "x"): 8,
            ("points", 1): 10, ("points", 1, "x"): 10, ("u",): 12, ("v",): 12, ("w",): 15, ("w", 0): 15, ("w", 1): 16,
            ("none",): 20, ("empty",): 20, ("last",): 20, ("last", "u"): 20, ("last", "v"): 20, ("last", "w"): 23,
            ("last", "w", 0): 23, ("last", "w", 1): 24,
        })

    def test_with_big_ends_too(self):
        layout = struct([("p", I1), ("a", I4), ("b", ("array", I2, 2))], ends="big")
        self.assertEqual([layout.octet_at(path) for path in [("p",), ("a",), ("b",), ("b", 1)]], [0, 4, 8, 10])

    def test_it_is_an_integer(self):
        self.assertIs(WHOLE.octet_at(["points", 1]).__class__, int)
        self.assertEqual(WHOLE.octet_at(path=[]), 0)

    def test_not_of_bit_fields(self):
        self.refused(WHOLE.octet_at, FIELDS)
        self.refused(struct([("a", I1, 8)]).octet_at, [("a",), ["a"]])

    def test_what_leads_nowhere(self):
        self.refused(WHOLE.octet_at, NOWHERE)


class KindTest(Case):
    def test_of_all(self):
        told = {path: WHOLE.kind_at(path) for path in OTHERS + INTEGERS}
        rows = ("array", I1, 2)
        self.assertEqual(told, {
            (): WHOLE, ("a",): I2, ("f",): ("bits", 1, False, 3), ("rows",): ("array", rows, 2), ("rows", 0): rows,
            ("rows", 1): rows, ("rows", 0, 0): I1, ("rows", 0, 1): I1, ("rows", 1, 0): I1, ("rows", 1, 1): I1,
            ("points",): ("array", POINT, 2), ("points", 0): POINT, ("points", 1): POINT, ("points", 0, "x"): I1,
            ("points", 1, "x"): I1, ("points", 0, "y"): ("bits", 2, True, 5), ("points", 1, "y"): ("bits", 2, True, 5),
            ("u",): I4, ("v",): I2, ("w",): rows, ("w", 0): I1, ("w", 1): I1, ("none",): ("array", I4, 0),
            ("empty",): EMPTY, ("last",): CHOICE, ("last", "u"): I4, ("last", "v"): I2, ("last", "w"): rows,
            ("last", "w", 0): I1, ("last", "w", 1): I1,
        })

    def test_kinds_are_tuples_also_within_others(self):
        layout = struct([["a", ["array", ["array", ["int", 2, True], 2], 3]], ["b", ["int", 4, False], 9],
                         ["c", ["array", POINT, 1]]])
        self.assertEqual(layout.kind_at(["a"]), ("array", ("array", ("int", 2, True), 2), 3))
        self.assertEqual(layout.kind_at(["a", 0, 1]), ("int", 2, True))
        self.assertEqual(layout.kind_at(["b"]), ("bits", 4, False, 9))
        self.assertEqual(layout.kind_at(["c"]), ("array", POINT, 1))

    def test_they_are_new_ones(self):
        for path in OTHERS + INTEGERS:
            kind = WHOLE.kind_at(path)
            if isinstance(kind, tuple):
                self.assertIsNot(kind, WHOLE.kind_at(path))
        self.assertIsNot(WHOLE.kind_at(("rows",))[1], WHOLE.kind_at(("rows",))[1])

    def test_a_layout_stands_for_itself(self):
        self.assertIs(WHOLE.kind_at(()), WHOLE)
        self.assertIs(WHOLE.kind_at([]), WHOLE)
        self.assertIs(WHOLE.kind_at(("points", 1)), POINT)
        self.assertIs(WHOLE.kind_at(("points",))[1], POINT)
        self.assertIs(WHOLE.kind_at(path=("last",)), CHOICE)

    def test_what_leads_nowhere(self):
        self.refused(WHOLE.kind_at, NOWHERE)


class HolesTest(unittest.TestCase):
    def test_padding_and_unnamed_fields(self):
        layout = struct([("a", I1), ("b", I2), ("c", I1, 3), (None, I1, 2), ("d", I1, 1)])
        self.assertEqual(layout.holes(), [8, 9, 10, 11, 12, 13, 14, 15, 35, 36] + list(range(38, 48)))

    def test_with_big_ends(self):
        layout = struct([("c", I1, 3), (None, I1, 2), ("d", I1, 1)], ends="big")
        self.assertEqual(layout.holes(), [0, 1, 3, 4])

    def test_of_unions(self):
        self.assertEqual(union([("a", I2, 3), ("b", I1)]).holes(), list(range(8, 16)))
        self.assertEqual(union([("a", I4), ("b", I1)]).holes(), [])
        self.assertEqual(union([("a", I4, 3), ("b", I1)], align=2, pack=1).holes(), list(range(8, 16)))

    def test_of_layouts_within(self):
        layout = struct([("p", ("array", struct([("x", I1, 7)]), 2)), (None, union([("y", I1, 6)]))])
        self.assertEqual(layout.holes(), [7, 15, 22, 23])

    def test_of_nothing(self):
        self.assertEqual(EMPTY.holes(), [])
        self.assertEqual(struct([(None, I1, 3)]).holes(), list(range(8)))
        self.assertEqual(struct([("a", I4)]).holes(), [])

    def test_it_is_a_new_list(self):
        layout = struct([("a", I1, 7)])
        holes = layout.holes()
        self.assertIsNot(holes, layout.holes())
        holes.append(99)
        self.assertEqual(layout.holes(), [7])


class PropertiesTest(unittest.TestCase):
    def test_what_they_tell(self):
        layout = struct([("a", I4)], convention="msvc", ends="big", align=8)
        self.assertEqual((layout.size, layout.alignment, layout.convention, layout.ends), (8, 8, "msvc", "big"))

    def test_they_are_not_assigned(self):
        for name in ("size", "alignment", "convention", "ends"):
            with self.assertRaises(AttributeError):
                setattr(EMPTY, name, 1)


if __name__ == "__main__":
    unittest.main()
