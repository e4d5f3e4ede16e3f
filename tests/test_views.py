"""Points 3, 4, 5, 17 and 18: views."""

import copy
import inspect
import unittest

from fieldberth import views
from fieldberth.errors import BadAddress, BadKind, BadPath, BadSize, BadValue
from fieldberth.layouts import struct, union
from fieldberth.memories import Memory
from fieldberth.views import View
from tests.plain import NO_INTEGERS, as_lists, inner_rows, share_nothing

I1 = ("int", 1, False)
S1 = ("int", 1, True)
I2 = ("int", 2, False)
S2 = ("int", 2, True)
I4 = ("int", 4, False)
S4 = ("int", 4, True)
I8 = ("int", 8, False)
S8 = ("int", 8, True)

POINT = struct([("x", I1), ("y", S2, 5)])
CHOICE = union([("u", I4), (None, struct([("v", S2), (None, S2, 3), ("w", ("array", I1, 2))]))])
EMPTY = struct([])
WHOLE = struct([
    ("a", S2),
    (None, I1, 4),
    ("f", I1, 3),
    ("rows", ("array", ("array", I1, 2), 2)),
    ("points", ("array", POINT, 2)),
    (None, CHOICE),
    ("none", ("array", I4, 0)),
    ("empty", EMPTY),
    ("last", CHOICE),
])
FIELDS = [("f",), ("points", 0, "y"), ("points", 1, "y")]
INTEGERS = WHOLE.paths()
OTHERS = [(), ("rows",), ("rows", 0), ("points",), ("points", 1), ("w",), ("none",), ("empty",), ("last",), ("last", "w")]
NOWHERE = [
    None, True, False, 0, 1, -1, 2 ** 70, "", "a", "rows", {}, {"a": 1}, WHOLE, EMPTY,
    ("b",), ("",), (None,), (True,), (0,), ((),), ([],), ({},), (("a",),), (["a"],), (EMPTY,), ["b"], [["a"]],
    ("a", 0), ("a", "x"), ("f", 0), ("rows", 2), ("rows", -1), ("rows", True), ("rows", False), ("rows", "0"),
    ("rows", 0, 2), ("rows", 0, True), ("rows", 0, 0, 0), ("points", "x"), ("points", 0, "z"), ("points", 2, "x"),
    (None, "u"), (None, None, "v"), ("u", "v"), ("none", 0), ("empty", "a"), ("last", None, "v"), ("last", "a"),
]
OCTETS = [(37 * k + 11) % 256 for k in range(28)]


class Case(unittest.TestCase):
    def refused(self, ask, paths):
        for path in paths:
            with self.assertRaises(BadPath) as caught:
                ask(path)
            self.assertIs(caught.exception.path, path)


class MakingTest(Case):
    def test_properties_of_a_view_of_a_layout(self):
        memory = Memory(40)
        view = View(memory, WHOLE, 5)
        self.assertIs(view.memory, memory)
        self.assertIs(view.layout, WHOLE)
        self.assertEqual((view.address, view.size), (5, WHOLE.size))

    def test_properties_of_a_view_of_an_array(self):
        view = View(Memory(20), ("array", ("array", I2, 3), 2), 7)
        self.assertEqual(view.layout, ("array", ("array", ("int", 2, False), 3), 2))
        self.assertEqual((view.address, view.size), (7, 12))
        self.assertIs(View(Memory(20), ("array", POINT, 2)).layout[1], POINT)

    def test_the_address_is_0_if_none_is_passed(self):
        self.assertEqual(View(Memory(28), WHOLE).address, 0)

    def test_by_keyword(self):
        memory = Memory(9)
        view = View(address=1, layout=struct([("a", I8)]), memory=memory)
        view.write(value=3, path=("a",))
        self.assertEqual(view.read(path=("a",)), 3)
        self.assertEqual(view.whole(path=()), {"a": 3})
        self.assertEqual(view.part(path=()).address, 1)
        view.copy_from(other=view)

    def test_at_the_very_end(self):
        memory = Memory([1, 2, 3, 4, 5])
        self.assertEqual(View(memory, struct([("a", I2)]), 3).read(("a",)), 0x0504)
        self.assertEqual(View(memory, ("array", I1, 5), 0).whole(), [1, 2, 3, 4, 5])
        for layout in (EMPTY, ("array", I4, 0), ("array", EMPTY, 3), union([])):
            view = View(memory, layout, 5)
            self.assertEqual((view.address, view.size), (5, 0))
        self.assertEqual(View(Memory(0), EMPTY).whole(), {})

    def test_the_greatest_of_all(self):
        memory = Memory([k for k in range(200)])
        layout = struct([("a", ("array", I8, 8))])
        self.assertEqual(View(memory, layout, 136).read(("a", 7)), int.from_bytes(bytes(range(192, 200)), "little"))
        self.assertEqual(View(memory, ("array", layout, 3), 8).read((2, "a", 7)), View(memory, layout, 136).read(("a", 7)))

    def test_bad_kind(self):
        for kind in [None, True, 5, 2 ** 70, "", "int", [], (), {}, I4, ["int", 4, True], ("int", 3, True),
                     ("int", 4, 1), ("int", 4), ("array", I4), ("array", I4, -1), ("array", I4, True), ["array", 5, "1"],
                     ("bits", 1, False, 3), ("bits", 1, False), (WHOLE,), [POINT]]:
            with self.assertRaises(BadKind) as caught:
                View(Memory(100), kind)
            self.assertIs(caught.exception.kind, kind)

    def test_bad_kind_within_an_array(self):
        for inner in [5, None, ("int", 3, True), ["array", I4, -1], ("bits", 1, False), []]:
            with self.assertRaises(BadKind) as caught:
                View(Memory(100), ("array", ["array", inner, 2], 2))
            self.assertIs(caught.exception.kind, inner)
        with self.assertRaises(BadKind) as caught:
            View(Memory(100), ("array", 5, -1))
        self.assertEqual(caught.exception.kind, ("array", 5, -1))

    def test_bad_address(self):
        for layout, address in [(WHOLE, -1), (WHOLE, 13), (WHOLE, 2 ** 70), (WHOLE, -2 ** 70), (EMPTY, 41), (EMPTY, -1),
                                (("array", I1, 41), 0), (("array", I2, 3), 35), (("array", I4, 0), 41)]:
            with self.assertRaises(BadAddress) as caught:
                View(Memory(40), layout, address)
            self.assertIs(caught.exception.octet, address)
        self.assertEqual(View(Memory(40), WHOLE, 12).address, 12)
        self.assertEqual(View(Memory(40), ("array", I2, 3), 34).address, 34)

    def test_the_kind_is_looked_at_first(self):
        for kind in (I4, None, ("array", I4, -1)):
            with self.assertRaises(BadKind):
                View(Memory(4), kind, -1)

    def test_later_changes_to_what_was_passed(self):
        kind = ["array", ["array", ["int", 2, True], 2], 2]
        view = View(Memory([255] * 8), kind)
        kind[2], kind[1][2], kind[1][1][2] = 1, 0, False
        self.assertEqual(view.layout, ("array", ("array", ("int", 2, True), 2), 2))
        self.assertEqual(view.whole(), [[-1, -1], [-1, -1]])

    def test_what_was_passed_stays(self):
        kind = ["array", ["array", ["int", 2, True], 2], 2]
        kept = copy.deepcopy(kind)
        View(Memory(8), kind).part((0,)).write((1,), 9)
        self.assertEqual(kind, kept)

    def test_layout_is_a_new_kind_of_tuples(self):
        view = View(Memory(8), ["array", ["array", ["int", 2, True], 2], 2])
        self.assertTrue(share_nothing(view.layout, view.layout))
        for row in inner_rows(view.layout):
            self.assertIs(row.__class__, tuple)

    def test_equal_only_to_itself(self):
        memory = Memory(28)
        view = View(memory, WHOLE)
        self.assertEqual(view, view)
        self.assertNotEqual(view, View(memory, WHOLE))

    def test_properties_are_not_assigned(self):
        for name in ("memory", "layout", "address", "size"):
            with self.assertRaises(AttributeError):
                setattr(View(Memory(4), EMPTY), name, 1)

    def test_the_interface_is_defined_here(self):
        self.assertEqual(View.__module__, "fieldberth.views")
        self.assertIs(views.View, View)
        for name, wanted in {"read": "path", "write": "path value", "part": "path", "whole": "path",
                             "copy_from": "other"}.items():
            self.assertIn(name, vars(View))
            self.assertEqual(list(inspect.signature(getattr(View, name)).parameters), ["self", *wanted.split()])
        for name in ("memory", "layout", "address", "size"):
            self.assertIsInstance(vars(View)[name], property)
        self.assertEqual(str(inspect.signature(View)), "(memory, layout, address=0)")
        self.assertEqual(inspect.signature(View.whole).parameters["path"].default, ())


class ReadTest(Case):
    def test_all_widths_little(self):
        octets = [0x81, 0x92, 0xA3, 0xB4, 0xC5, 0xD6, 0xE7, 0xF8]
        for size in (1, 2, 4, 8):
            for signed in (False, True):
                for address in range(9 - size):
                    view = View(Memory(octets), struct([("a", ("int", size, signed))]), address)
                    wanted = int.from_bytes(bytes(octets[address:address + size]), "little", signed=signed)
                    self.assertEqual(view.read(("a",)), wanted)

    def test_all_widths_big(self):
        octets = [0x81, 0x92, 0xA3, 0xB4, 0xC5, 0xD6, 0xE7, 0xF8]
        for size in (1, 2, 4, 8):
            for signed in (False, True):
                for address in range(9 - size):
                    view = View(Memory(octets), struct([("a", ("int", size, signed))], ends="big"), address)
                    wanted = int.from_bytes(bytes(octets[address:address + size]), "big", signed=signed)
                    self.assertEqual(view.read(("a",)), wanted)

    def test_bit_fields(self):
        members = [("a", I2, 3), ("b", S2, 13)]
        memory = Memory([0, 0xB5, 0x9E])
        self.assertEqual(View(memory, struct(members), 1).whole(), {"a": 0x5, "b": (0x9EB5 >> 3) - 2 ** 13})
        self.assertEqual(View(memory, struct(members, ends="big"), 1).whole(), {"a": 0x5, "b": (0xB59E & 0x1FFF) - 2 ** 13})
        one_bit = struct([("a", S1, 1), ("b", I1, 1)])
        self.assertEqual(View(Memory([3]), one_bit).whole(), {"a": -1, "b": 1})

    def test_a_field_of_64_bits(self):
        for ends in ("little", "big"):
            layout = struct([("p", I1, 4), ("a", S8, 64)], ends=ends, pack=1)
            view = View(Memory([255] * 9), layout)
            self.assertEqual(view.read(("a",)), -1)
            view.write(("a",), 2 ** 63 - 1)
            self.assertEqual(view.read(("a",)), 2 ** 63 - 1)
            self.assertEqual(view.read(("p",)), 15)

    def test_arrays_have_little_ends(self):
        memory = Memory([0, 1, 2, 3, 4])
        self.assertEqual(View(memory, ("array", I2, 2), 1).whole(), [0x0201, 0x0403])
        self.assertEqual(View(memory, ("array", I2, 2), 1).read((1,)), 0x0403)
        self.assertEqual(View(memory, ("array", ("array", I2, 1), 2), 1).read([1, 0]), 0x0403)

    def test_layouts_in_arrays_keep_their_ends(self):
        big = struct([("a", I2), ("b", ("array", I2, 1))], ends="big")
        view = View(Memory([1, 2, 3, 4, 5, 6, 7, 8]), ("array", big, 2))
        self.assertEqual(view.whole(), [{"a": 0x0102, "b": [0x0304]}, {"a": 0x0506, "b": [0x0708]}])
        self.assertEqual(view.read((1, "b", 0)), 0x0708)

    def test_ends_within_one_another(self):
        little = struct([("a", I2), ("b", ("array", I2, 1))])
        big = struct([("a", I2), ("in", little), ("b", ("array", I2, 1)), (None, struct([("c", I2)]))], ends="big")
        memory = Memory(range(10))
        self.assertEqual(View(memory, big).whole(),
                         {"a": 0x0001, "in": {"a": 0x0302, "b": [0x0504]}, "b": [0x0607], "c": 0x0908})

    def test_unions(self):
        view = View(Memory([9, 1, 0xFF, 3, 4, 0, 0, 0]), CHOICE)
        self.assertEqual(view.whole(), {"u": 0x03FF0109, "v": 0x0109, "w": [3, 4]})

    def test_what_leads_to_no_integer(self):
        view = View(Memory(OCTETS), WHOLE)
        self.refused(view.read, OTHERS)
        self.refused(view.read, [list(path) for path in OTHERS])
        self.refused(view.read, NOWHERE)

    def test_paths_of_arrays(self):
        view = View(Memory(8), ("array", ("array", I1, 2), 3))
        self.refused(view.read, [(), [], (0,), (3, 0), (0, 2), (-1, 0), (True, 0), (0, False), (0, 0, 0), ("a",), 0, None])
        self.refused(View(Memory(8), ("array", I1, 0)).read, [(), (0,)])

    def test_a_path_may_be_a_list(self):
        view = View(Memory(OCTETS), WHOLE)
        for path in INTEGERS:
            passed = list(path)
            self.assertEqual(view.read(passed), view.read(path))
            self.assertEqual(passed, list(path))

    def test_all_integers_at_odd_addresses(self):
        for address in (0, 1, 3):
            octets = [0xEE] * address + OCTETS + [0xEE]
            view = View(Memory(octets), WHOLE, address)
            for path in INTEGERS:
                bits, signed = WHOLE.berth(path)
                value = sum(((OCTETS[bit // 8] >> bit % 8) & 1) << place for place, bit in enumerate(bits))
                if signed and value >> (len(bits) - 1):
                    value -= 1 << len(bits)
                self.assertEqual(view.read(path), value)


class WriteTest(Case):
    def test_reading_gives_what_was_written_cut_to_its_bits(self):
        values = [0, 1, -1, 5, -6, 127, 128, 255, 256, -128, -129, 2 ** 31, -2 ** 31, 2 ** 63, 2 ** 64, -2 ** 63 - 1,
                  2 ** 70, -2 ** 70, 2 ** 70 - 1, 1 - 2 ** 70, 0x123456789ABCDEF01]
        for ends in ("little", "big"):
            for size in (1, 2, 4, 8):
                for signed in (False, True):
                    for bits in {None, 1, 3, 8 * size - 1, 8 * size}:
                        member = ("a", ("int", size, signed)) if bits is None else ("a", ("int", size, signed), bits)
                        layout = struct([("p", I1, 2), member, ("q", I1, 2)], ends=ends, pack=1)
                        width = 8 * size if bits is None else bits
                        for value in values:
                            view = View(Memory([0xA5] * (layout.size + 2)), layout, 1)
                            before = view.memory.octets()
                            self.assertIsNone(view.write(("a",), value))
                            wanted = value % 2 ** width
                            if signed and wanted >= 2 ** (width - 1):
                                wanted -= 2 ** width
                            self.assertEqual(view.read(("a",)), wanted)
                            own = {bit + 8 for bit in layout.berth(("a",))[0]}
                            after = view.memory.octets()
                            for bit in range(8 * len(before)):
                                if bit not in own:
                                    self.assertEqual((after[bit // 8] ^ before[bit // 8]) >> bit % 8 & 1, 0)

    def test_where_the_octets_lie(self):
        memory = Memory(6)
        View(memory, struct([("a", I4)]), 1).write(("a",), 0x01020304)
        self.assertEqual(memory.octets(), [0, 4, 3, 2, 1, 0])
        View(memory, struct([("a", I4)], ends="big"), 2).write(("a",), 0x01020304)
        self.assertEqual(memory.octets(), [0, 4, 1, 2, 3, 4])
        View(memory, ("array", S2, 2), 1).write((1,), -2)
        self.assertEqual(memory.octets(), [0, 4, 1, 254, 255, 4])

    def test_where_the_bits_lie(self):
        memory = Memory(3)
        View(memory, struct([("a", I2, 3), ("b", I2, 13)], ends="big"), 1).write(("b",), 0x1001)
        self.assertEqual(memory.octets(), [0, 0x10, 0x01])
        View(memory, struct([("a", I2, 3), ("b", I2, 13)]), 0).write(("b",), -1)
        self.assertEqual(memory.octets(), [0xF8, 0xFF, 0x01])

    def test_several_views_over_one_memory(self):
        memory = Memory(8)
        one, two, rows = View(memory, POINT), View(memory, struct([("a", S4)], ends="big"), 1), View(memory, ("array", I1, 8))
        two.write(("a",), -2)
        self.assertEqual(one.whole(), {"x": 0, "y": -1})
        self.assertEqual(rows.whole(), [0, 255, 255, 255, 254, 0, 0, 0])
        memory[1] = 0
        self.assertEqual((one.read(("y",)), two.read(("a",)), rows.read((1,))), (0, 0x00FFFFFE, 0))
        memory.move(0, 3, 2)
        self.assertEqual((one.read(("x",)), one.read(("y",)), rows.read((0,))), (255, -2, 255))
        rows.write((0,), 7)
        self.assertEqual((memory[0], one.read(("x",))), (7, 7))

    def test_what_leads_to_no_integer(self):
        view = View(Memory(OCTETS), WHOLE)
        for value in (1, None, "x"):
            self.refused(lambda path: view.write(path, value), OTHERS)
            self.refused(lambda path: view.write(path, value), [list(path) for path in OTHERS])
            self.refused(lambda path: view.write(path, value), NOWHERE)
        self.assertEqual(view.memory.octets(), OCTETS)

    def test_bad_value(self):
        view = View(Memory(OCTETS), WHOLE)
        for value in [*NO_INTEGERS, WHOLE, (1,), [[1]], "1"]:
            for path in [("a",), ("f",), ["rows", 0, 1], ("points", 1, "y")]:
                with self.assertRaises(BadValue) as caught:
                    view.write(path, value)
                self.assertIs(caught.exception.value, value)
        self.assertEqual(view.memory.octets(), OCTETS)

    def test_what_was_passed_stays(self):
        path = ["rows", 1, 0]
        View(Memory(28), WHOLE).write(path, 2)
        self.assertEqual(path, ["rows", 1, 0])


class PartTest(Case):
    def test_all_layouts_and_arrays(self):
        memory = Memory([0xEE] * 3 + OCTETS)
        view = View(memory, WHOLE, 3)
        for path in OTHERS:
            part = view.part(path)
            self.assertIsInstance(part, View)
            self.assertIs(part.memory, memory)
            self.assertEqual(part.address, 3 + WHOLE.octet_at(path))
            self.assertEqual(part.layout, WHOLE.kind_at(path))
            self.assertEqual(part.whole(), view.whole(path))
            for longer in INTEGERS:
                if longer[:len(path)] == path:
                    self.assertEqual(part.read(longer[len(path):]), view.read(longer))

    def test_sizes(self):
        view = View(Memory(28), WHOLE)
        told = {path: view.part(path).size for path in OTHERS}
        self.assertEqual(told, {(): 28, ("rows",): 4, ("rows", 0): 2, ("points",): 4, ("points", 1): 2, ("w",): 2,
                                ("none",): 0, ("empty",): 0, ("last",): 8, ("last", "w"): 2})

    def test_kinds_are_told(self):
        view = View(Memory(28), WHOLE)
        self.assertIs(view.part(("points", 1)).layout, POINT)
        self.assertIs(view.part(()).layout, WHOLE)
        self.assertIs(view.part([]).layout, WHOLE)
        self.assertEqual(view.part(["rows"]).layout, ("array", ("array", ("int", 1, False), 2), 2))
        self.assertEqual(view.part(["rows", 1]).layout, ("array", ("int", 1, False), 2))

    def test_at_each_call_another_one(self):
        view = View(Memory(28), WHOLE)
        for path in OTHERS:
            self.assertIsNot(view.part(path), view.part(path))
            self.assertIsNot(view.part(path), view)
        self.assertTrue(share_nothing(view.part(("rows",)).layout, view.part(("rows",)).layout))

    def test_parts_of_parts(self):
        inner = struct([("n", ("array", I2, 2)), ("s", S1, 3)], ends="big")
        outer = struct([("p", I1), ("rows", ("array", ("array", inner, 2), 2))])
        memory = Memory(range(40))
        view = View(memory, outer, 1)
        part = view.part(("rows", 1)).part((1,)).part(("n",))
        self.assertEqual(part.address, 1 + 2 + 3 * 6)
        self.assertEqual(part.whole(), [0x1516, 0x1718])
        self.assertEqual(part.part(()).whole(), [0x1516, 0x1718])
        self.assertEqual(view.part(("rows",)).part((1, 1)).part(()).read(("n", 1)), 0x1718)
        part.write((1,), 0xABCD)
        self.assertEqual(view.read(("rows", 1, 1, "n", 1)), 0xABCD)
        self.assertEqual(memory.octets()[23:25], [0xAB, 0xCD])

    def test_parts_keep_the_ends_of_their_layout(self):
        big = struct([("a", ("array", ("array", I2, 2), 2)), ("l", ("array", struct([("b", I2)]), 2))], ends="big")
        view = View(Memory(range(12)), big)
        self.assertEqual(view.part(("a",)).whole(), [[0x0001, 0x0203], [0x0405, 0x0607]])
        self.assertEqual(view.part(("a",)).part((1,)).read((1,)), 0x0607)
        self.assertEqual(view.part(("l",)).whole(), [{"b": 0x0908}, {"b": 0x0B0A}])
        self.assertEqual(view.part(("l", 1)).read(("b",)), 0x0B0A)
        rows = View(Memory(range(12)), ("array", big, 1)).part((0, "a"))
        self.assertEqual(rows.whole(), [[0x0001, 0x0203], [0x0405, 0x0607]])
        # A view that is made anew of the same array kind has little ends.
        self.assertEqual(View(rows.memory, rows.layout).read((0, 1)), 0x0302)

    def test_parts_of_arrays(self):
        view = View(Memory(range(9)), ("array", ("array", I2, 2), 2), 1)
        self.assertEqual(view.part(()).whole(), [[0x0201, 0x0403], [0x0605, 0x0807]])
        self.assertEqual((view.part((1,)).address, view.part((1,)).whole()), (5, [0x0605, 0x0807]))

    def test_empty_parts_at_the_very_end(self):
        layout = struct([("a", I1), ("e", EMPTY), ("n", ("array", I1, 0))])
        view = View(Memory(4), layout, 3)
        for name, worth in (("e", {}), ("n", [])):
            part = view.part((name,))
            self.assertEqual((part.address, part.size, part.whole()), (4, 0, worth))

    def test_what_leads_to_an_integer(self):
        view = View(Memory(OCTETS), WHOLE)
        self.refused(view.part, INTEGERS)
        self.refused(view.part, [list(path) for path in INTEGERS])
        self.refused(View(Memory(4), ("array", I2, 2)).part, [(0,), [1]])

    def test_what_leads_nowhere(self):
        self.refused(View(Memory(OCTETS), WHOLE).part, NOWHERE)
        self.refused(View(Memory(4), ("array", I2, 2)).part, [(2,), (-1,), (True,), ("a",), (0, 0), None, 0])
        # Paths of a part go on from there.
        self.refused(View(Memory(OCTETS), WHOLE).part(("rows",)).part, [("rows",), ("rows", 0)])


class WholeTest(Case):
    def test_of_everything(self):
        view = View(Memory([0xFE, 0xFF, 0xA0, 1, 2, 3, 4, 0, 5, 0x1F, 6, 0x0F, 7, 0, 0, 8, 9, 0, 0, 0] + [1] * 8), WHOLE)
        choice = {"u": 0x01010101, "v": 0x0101, "w": [1, 1]}
        self.assertEqual(view.whole(), {
            "a": -2, "f": 2, "rows": [[1, 2], [3, 4]], "points": [{"x": 5, "y": -1}, {"x": 6, "y": 15}],
            "u": 0x08000007, "v": 7, "w": [8, 9], "none": [], "empty": {}, "last": choice,
        })
        self.assertEqual(view.whole(("last",)), choice)

    def test_it_agrees_with_read(self):
        view = View(Memory(OCTETS + [0]), WHOLE, 1)
        whole = view.whole()
        for path in INTEGERS:
            thing = whole
            for step in path:
                thing = thing[step]
            self.assertEqual(thing, view.read(path))
            self.assertEqual(view.whole(path), view.read(path))
            self.assertEqual(view.whole(list(path)), view.read(path))

    def test_of_empty_things(self):
        memory = Memory(3)
        self.assertEqual(View(memory, EMPTY).whole(), {})
        self.assertEqual(View(memory, struct([(None, I1, 5), (None, EMPTY)])).whole(), {})
        self.assertEqual(View(memory, ("array", I4, 0)).whole(), [])
        self.assertEqual(View(memory, ("array", EMPTY, 3)).whole(), [{}, {}, {}])
        self.assertEqual(View(memory, ("array", ("array", I4, 0), 2)).whole(), [[], []])
        self.assertEqual(View(memory, struct([("a", ("array", EMPTY, 2))])).whole(), {"a": [{}, {}]})

    def test_anonymous_ones_within_one_another(self):
        inner = union([("a", I1), (None, struct([("b", I1, 4), ("c", S1, 4)], ends="big"))])
        layout = struct([("x", I1), (None, struct([(None, inner), ("d", I1)]))])
        self.assertEqual(View(Memory([1, 0x7F, 3]), layout).whole(), {"x": 1, "a": 0x7F, "b": 7, "c": -1, "d": 3})

    def test_all_are_new_lists_and_dicts(self):
        view = View(Memory(OCTETS), WHOLE)
        for path in OTHERS:
            one = view.whole(path)
            self.assertTrue(share_nothing(one, view.whole(path)))
            rows = [id(row) for row in inner_rows(one)]
            self.assertEqual(len(rows), len(set(rows)))
        whole = view.whole()
        whole["rows"][0][0] = 999
        whole["points"][1].clear()
        whole["none"].append(1)
        self.assertNotIn(999, view.whole(("rows", 0)))
        self.assertEqual(len(view.whole(("points", 1))), 2)
        self.assertEqual(view.whole(("none",)), [])
        self.assertEqual(view.memory.octets(), OCTETS)

    def test_lists_and_dicts_alone(self):
        whole = View(Memory(OCTETS), WHOLE).whole()
        for row in inner_rows(whole):
            self.assertIn(row.__class__, (list, dict))
        self.assertEqual(list(whole), ["a", "f", "rows", "points", "u", "v", "w", "none", "empty", "last"])

    def test_it_does_not_follow_the_memory(self):
        view = View(Memory(OCTETS), WHOLE)
        whole = view.whole()
        kept = copy.deepcopy(whole)
        for path in INTEGERS:
            view.write(path, 0)
        self.assertEqual(whole, kept)

    def test_what_leads_nowhere(self):
        self.refused(View(Memory(OCTETS), WHOLE).whole, NOWHERE)
        self.refused(View(Memory(4), ("array", I2, 2)).whole, [(2,), (-1,), (False,), ("a",), (0, 0), None, 0])


class CopyTest(Case):
    def test_from_another_memory_and_layout(self):
        one = View(Memory([1, 2, 3, 4, 5]), struct([("a", I1), ("b", I2, 5)]), 1)
        two = View(Memory([9, 8, 7]), ("array", I1, 2), 1)
        self.assertIsNone(one.copy_from(two))
        self.assertEqual(one.memory.octets(), [1, 8, 7, 4, 5])
        self.assertEqual(two.memory.octets(), [9, 8, 7])

    def test_octets_in_holes_are_written_too(self):
        layout = struct([("a", I1, 3), ("b", I2)])
        one, two = View(Memory(4), layout), View(Memory([255, 255, 255, 255]), layout)
        one.copy_from(two)
        self.assertEqual(one.memory.octets(), [255] * 4)

    def test_views_that_overlap(self):
        for to, source in [(0, 1), (1, 0), (2, 0), (0, 3), (1, 1)]:
            memory = Memory([10, 20, 30, 40, 50, 60, 70])
            View(memory, ("array", I1, 4), to).copy_from(View(memory, struct([("a", I4)]), source))
            wanted = [10, 20, 30, 40, 50, 60, 70]
            wanted[to:to + 4] = [10, 20, 30, 40, 50, 60, 70][source:source + 4]
            self.assertEqual(memory.octets(), wanted)

    def test_from_itself_and_its_parts(self):
        layout = struct([("a", ("array", I2, 2)), ("b", ("array", I1, 4))], ends="big")
        view = View(Memory(range(10)), layout, 1)
        view.copy_from(view)
        self.assertEqual(view.memory.octets(), list(range(10)))
        view.part(("b",)).copy_from(view.part(("a",)))
        self.assertEqual(view.memory.octets(), [0, 1, 2, 3, 4, 1, 2, 3, 4, 9])

    def test_of_nothing(self):
        one = View(Memory([1, 2]), EMPTY, 2)
        one.copy_from(View(Memory([5]), ("array", I4, 0), 1))
        self.assertEqual(one.memory.octets(), [1, 2])

    def test_bad_size(self):
        memory = Memory(range(30))
        view = View(memory, WHOLE, 1)
        for other in [View(memory, POINT), View(memory, EMPTY), View(Memory(29), ("array", I1, 29)),
                      View(memory, ("array", I1, 27))]:
            with self.assertRaises(BadSize) as caught:
                view.copy_from(other)
            self.assertEqual(caught.exception.many, other.size)
            with self.assertRaises(BadSize) as caught:
                other.copy_from(view)
            self.assertEqual(caught.exception.many, 28)
        self.assertEqual(memory.octets(), list(range(30)))


class LimitsTest(Case):
    def test_kinds_deep_within_one_another(self):
        kind = ("array", ("array", ("array", S2, 1), 2), 1)
        layout = struct([("a", struct([("b", ("array", struct([("c", kind)], ends="big"), 2))]))])
        view = View(Memory([0xFF, 0xFE] * 4), layout)
        self.assertEqual(view.whole(), {"a": {"b": [{"c": [[[-2], [-2]]]}, {"c": [[[-2], [-2]]]}]}})
        self.assertEqual(view.part(("a", "b", 1)).part(("c", 0)).read((1, 0)), -2)

    def test_forty_integers_in_arrays_of_sixty_four(self):
        layout = struct([("a", ("array", I1, 40)), ("e", ("array", EMPTY, 64))])
        view = View(Memory(range(200)), ("array", layout, 5))
        self.assertEqual(view.read((4, "a", 39)), 199)
        self.assertEqual(view.whole((4,)), {"a": list(range(160, 200)), "e": [{}] * 64})

    def test_kinds_as_lists(self):
        kind = ("array", ("array", S2, 2), 1)
        self.assertEqual(View(Memory([254, 255, 1, 0]), as_lists(kind)).whole(), [[-2, 1]])


if __name__ == "__main__":
    unittest.main()
