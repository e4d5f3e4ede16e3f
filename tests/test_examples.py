"""Points 13, 15 and 32: the examples of the document, word for word."""

import unittest

from fieldberth.effects import effect, mate, same_effect
from fieldberth.facts import follows, keeps
from fieldberth.layouts import struct
from fieldberth.orders import least_order
from fieldberth.programs import run
from fieldberth.wishes import least_program


class ExamplesTest(unittest.TestCase):
    def test_point_13(self):
        self.assertEqual(struct([("a", ("int", 1, True)), (None, ("int", 4, True), 0)]).size, 4)

    def test_point_15(self):
        members = [("a", ("int", 4, True), 3), ("b", ("int", 1, False))]
        layout = struct(members)
        self.assertEqual((layout.size, layout.alignment, layout.octet_at(("b",))), (4, 4, 1))
        layout = struct(members, convention="msvc")
        self.assertEqual((layout.size, layout.alignment, layout.octet_at(("b",))), (8, 4, 4))
        layout = struct([("a", ("int", 2, False), 3), ("b", ("int", 2, False), 13)], ends="big")
        self.assertEqual(layout.berth(("a",)), ((5, 6, 7), False))
        self.assertEqual(layout.berth(("b",)), ((8, 9, 10, 11, 12, 13, 14, 15, 0, 1, 2, 3, 4), False))

    def test_point_32(self):
        layout = struct([("a", ("int", 2, False)), ("b", ("int", 2, False))])
        swap, carry = [("swap", ("a",), ("b",))], [("copy", ("a",), ("b",))]
        self.assertEqual(same_effect(layout, swap, carry), [0, 0, 0, 1])
        self.assertEqual(run(layout, swap, [0, 0, 0, 1]), [0, 1, 0, 0])
        self.assertEqual(run(layout, carry, [0, 0, 0, 1]), [0, 1, 0, 1])
        self.assertEqual(mate(layout, carry, [0, 0, 5, 5]), [0, 1, 5, 5])
        self.assertEqual(least_program(layout, effect(layout, swap), 2), [("swap", ("a",), ("b",))])
        self.assertIsNone(keeps(layout, [("is", ("a",), 7)], swap, [("is", ("b",), 7)]))
        self.assertEqual(keeps(layout, [], swap, [("is", ("b",), 7)]), [0, 0, 0, 0])
        self.assertEqual(follows(layout, [], carry), [("same", ("a",), ("b",))])
        self.assertEqual(least_order([("a", ("int", 1, True)), ("b", ("int", 4, True)), ("c", ("int", 1, True)),
                                      ("d", ("int", 2, True))]), (8, [0, 2, 3, 1]))


if __name__ == "__main__":
    unittest.main()
