"""What README.md shows is so."""

import unittest

from fieldberth.layouts import struct, union
from fieldberth.memories import Memory


class ReadmeTest(unittest.TestCase):
    def test_the_header(self):
        header = struct([
            ("version", ("int", 1, False), 4),
            ("length", ("int", 1, False), 4),
            ("port", ("int", 2, False)),
            (None, union([
                ("word", ("int", 4, False)),
                ("octets", ("array", ("int", 1, False), 4)),
            ])),
        ], convention="msvc", ends="big")
        self.assertEqual(header.size, 8)
        self.assertEqual(header.paths()[:5], [("version",), ("length",), ("port",), ("word",), ("octets", 0)])
        self.assertEqual(header.berth(("length",)), ((0, 1, 2, 3), False))
        self.assertEqual(header.octet_at(("octets", 2)), 6)
        self.assertEqual(header.kind_at(("version",)), ("bits", 1, False, 4))
        self.assertEqual(header.holes(), [8, 9, 10, 11, 12, 13, 14, 15])

    def test_the_memory(self):
        memory = Memory([1, 2, 3, 4])
        memory[0] = 255
        memory.move(1, 0, 3)
        self.assertEqual(memory.octets(), [255, 255, 2, 3])


if __name__ == "__main__":
    unittest.main()
