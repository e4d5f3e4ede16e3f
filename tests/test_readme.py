"""What README.md shows is so."""

import unittest

from fieldberth.effects import effect, followed, lost, mate, same_effect, turned_back
from fieldberth.facts import follows, has_facts, keeps, needed, possible
from fieldberth.layouts import struct, union
from fieldberth.memories import Memory
from fieldberth.orders import least_order
from fieldberth.programs import is_program, run
from fieldberth.views import View
from fieldberth.wishes import fits, least_program, readable, wish_of
from fieldberth.writes import least_writes

HEADER = struct([
    ("version", ("int", 1, False), 4),
    ("length", ("int", 1, False), 4),
    ("port", ("int", 2, False)),
    (None, union([
        ("word", ("int", 4, False)),
        ("octets", ("array", ("int", 1, False), 4)),
    ])),
], convention="msvc", ends="big")
PAIR = struct([("a", ("int", 2, False)), ("b", ("int", 2, False))])


class ReadmeTest(unittest.TestCase):
    def test_the_header(self):
        header = HEADER
        self.assertEqual(header.size, 8)
        self.assertEqual(header.paths()[:5], [("version",), ("length",), ("port",), ("word",), ("octets", 0)])
        self.assertEqual(header.berth(("length",)), ((0, 1, 2, 3), False))
        self.assertEqual(header.octet_at(("octets", 2)), 6)
        self.assertEqual(header.kind_at(("version",)), ("bits", 1, False, 4))
        self.assertEqual(header.holes(), [8, 9, 10, 11, 12, 13, 14, 15])

    def test_the_memory(self):
        memory = Memory([1, 2, 3, 4])
        memory[0] = 255
        memory.move(1, 0, 3)
        self.assertEqual(memory.octets(), [255, 255, 2, 3])

    def test_the_view(self):
        memory = Memory(10)
        view = View(memory, HEADER, 2)
        view.write(("length",), 21)
        self.assertEqual(view.read(("length",)), 5)
        view.part(("octets",)).write((3,), -1)
        # The union has ends of its own: its word is a little one.
        self.assertEqual(view.whole(), {"version": 0, "length": 5, "port": 0, "word": 255 << 24, "octets": [0, 0, 0, 255]})
        view.copy_from(View(Memory(8), HEADER))
        self.assertEqual(memory.octets(), [0] * 10)

    def test_the_program(self):
        program = [("set", ("a",), 258), ("copy", ("b",), ("a",)), ("shift", ("b",), 4), ("turn", ("a",)),
                   ("swap", ("a",), ("b",)), ("move", 0, 3, 1)]
        self.assertIs(is_program(PAIR, program), True)
        self.assertEqual(run(PAIR, program, [0, 0, 0, 0]), [2, 16, 1, 2])

    def test_the_effects(self):
        swap, copy = [("swap", ("a",), ("b",))], [("copy", ("a",), ("b",))]
        self.assertEqual(effect(PAIR, copy)[:2], [("bit", 16), ("bit", 17)])
        self.assertEqual(followed(effect(PAIR, swap), effect(PAIR, copy)), effect(PAIR, swap + copy))
        self.assertEqual(same_effect(PAIR, swap, copy), [0, 0, 0, 1])
        self.assertEqual(lost(PAIR, copy), list(range(16)))
        self.assertEqual(mate(PAIR, copy, [0, 0, 5, 5]), [0, 1, 5, 5])
        self.assertEqual(turned_back(PAIR, swap), effect(PAIR, swap))

    def test_the_wishes(self):
        swap = [("swap", ("a",), ("b",))]
        self.assertIs(fits(effect(PAIR, swap), effect(PAIR, swap)[:16] + [None] * 16), True)
        self.assertEqual(least_program(PAIR, effect(PAIR, swap), 2), swap)
        turned = struct([("b", ("int", 2, False)), ("a", ("int", 2, True))], ends="big")
        wish = wish_of(PAIR, turned)
        self.assertEqual(wish[:2] + wish[16:18], [("bit", 24), ("bit", 25), ("bit", 8), ("bit", 9)])
        self.assertIsNone(least_program(PAIR, wish, 1))
        self.assertEqual(readable(PAIR, turned), [])

    def test_the_facts(self):
        swap, seven, alike = [("swap", ("a",), ("b",))], [("is", ("a",), 7)], [("same", ("a",), ("b",))]
        self.assertIs(has_facts(PAIR, [7, 0, 1, 0], seven), True)
        self.assertEqual(possible(PAIR, seven + alike), [7, 0, 7, 0])
        self.assertIsNone(keeps(PAIR, seven, swap, [("is", ("b",), 7)]))
        self.assertEqual(keeps(PAIR, [], swap, [("is", ("b",), 7)]), [0, 0, 0, 0])
        self.assertEqual(follows(PAIR, seven, swap), [("is", ("b",), 7)])
        self.assertEqual(needed(PAIR, swap, alike), [None] * 16 + [("bit", bit) for bit in range(16)])

    def test_the_order_and_the_writes(self):
        byte, word = ("int", 1, True), ("int", 4, True)
        self.assertEqual(least_order([("a", byte), ("b", word), ("c", byte)]), (8, [0, 2, 1]))
        self.assertEqual(least_writes(PAIR, [1, 2, 3, 4], [1, 2, 0, 4]), [("b",)])


if __name__ == "__main__":
    unittest.main()
