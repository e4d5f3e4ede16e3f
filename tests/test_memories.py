"""Points 3, 4, 5 and 16: memories."""

import inspect
import unittest

from fieldberth import memories
from fieldberth.errors import BadAddress, BadOctet
from fieldberth.layouts import struct
from fieldberth.memories import Memory

NO_INTEGERS = [None, True, False, "0", "", [], [0], (), (0, 1), {}, {0: 1}, 1.0]


class MakingTest(unittest.TestCase):
    def test_from_a_list(self):
        memory = Memory([1, 2, 255, 0])
        self.assertEqual(len(memory), 4)
        self.assertEqual(memory.octets(), [1, 2, 255, 0])

    def test_from_a_tuple(self):
        self.assertEqual(Memory((7, 0)).octets(), [7, 0])

    def test_from_a_number(self):
        self.assertEqual(Memory(3).octets(), [0, 0, 0])
        self.assertEqual(Memory(0).octets(), [])
        self.assertEqual(len(Memory(200)), 200)

    def test_from_an_empty_list(self):
        self.assertEqual(len(Memory([])), 0)
        self.assertEqual(Memory(()).octets(), [])

    def test_by_keyword(self):
        self.assertEqual(Memory(octets=[5]).octets(), [5])

    def test_of_the_greatest_size(self):
        octets = [k for k in range(200)]
        self.assertEqual(Memory(octets).octets(), octets)

    def test_bad_octet_keeps_the_first_wrong_thing(self):
        wrong = [256, -1, 2 ** 70, -2 ** 70, None, True, False, "1", [], (3,), {}, struct([])]
        for thing in wrong:
            with self.assertRaises(BadOctet) as caught:
                Memory([0, 255, thing, "later", -5])
            self.assertIs(caught.exception.value, thing)

    def test_what_was_passed_is_neither_changed_nor_looked_at_again(self):
        octets = [1, 2, 3]
        memory = Memory(octets)
        memory[0] = 9
        memory.move(1, 0, 2)
        self.assertEqual(octets, [1, 2, 3])
        octets[2] = 77
        octets.append(4)
        self.assertEqual(memory.octets(), [9, 9, 2])

    def test_equal_only_to_itself(self):
        memory = Memory([1])
        self.assertEqual(memory, memory)
        self.assertNotEqual(memory, Memory([1]))

    def test_the_interface_is_defined_here(self):
        self.assertEqual(Memory.__module__, "fieldberth.memories")
        for name in ("__len__", "__getitem__", "__setitem__", "octets", "move"):
            self.assertIn(name, vars(Memory))
        self.assertEqual(list(inspect.signature(Memory).parameters), ["octets"])
        self.assertEqual(list(inspect.signature(Memory.move).parameters), ["self", "to", "source", "many"])
        self.assertIs(memories.Memory, Memory)


class ItemsTest(unittest.TestCase):
    def test_reading(self):
        memory = Memory([4, 5, 6])
        self.assertEqual([memory[0], memory[1], memory[2]], [4, 5, 6])

    def test_writing(self):
        memory = Memory(3)
        memory[0] = 255
        memory[2] = 1
        memory[1] = 0
        self.assertEqual(memory.octets(), [255, 0, 1])

    def test_iterating_gives_the_octets(self):
        self.assertEqual(list(Memory([4, 5])), [4, 5])

    def test_bad_address_in_reading(self):
        memory = Memory([4, 5, 6])
        for k in [3, -1, -3, 200, 2 ** 70, -2 ** 70, slice(0, 2), struct([]), *NO_INTEGERS]:
            with self.assertRaises(BadAddress) as caught:
                memory[k]
            self.assertIs(caught.exception.octet, k)

    def test_bad_address_in_writing(self):
        memory = Memory([4, 5, 6])
        for k in [3, -1, 2 ** 70, -2 ** 70, slice(0, 2), struct([]), *NO_INTEGERS]:
            with self.assertRaises(BadAddress) as caught:
                memory[k] = 1
            self.assertIs(caught.exception.octet, k)
        self.assertEqual(memory.octets(), [4, 5, 6])

    def test_nothing_is_within_an_empty_memory(self):
        for k in (0, -1):
            with self.assertRaises(BadAddress):
                Memory(0)[k]

    def test_bad_octet_in_writing(self):
        memory = Memory([4, 5, 6])
        for value in [256, -1, 2 ** 70, -2 ** 70, struct([]), *NO_INTEGERS]:
            with self.assertRaises(BadOctet) as caught:
                memory[2] = value
            self.assertIs(caught.exception.value, value)
        self.assertEqual(memory.octets(), [4, 5, 6])

    def test_the_address_is_looked_at_first(self):
        memory = Memory([4, 5, 6])
        with self.assertRaises(BadAddress) as caught:
            memory[3] = 256
        self.assertEqual(caught.exception.octet, 3)
        with self.assertRaises(BadAddress):
            memory[True] = None

    def test_octets_is_a_new_list(self):
        memory = Memory([4, 5, 6])
        octets = memory.octets()
        self.assertIsNot(octets, memory.octets())
        self.assertIs(octets.__class__, list)
        octets[0] = 99
        octets.append(1)
        self.assertEqual(memory.octets(), [4, 5, 6])
        memory[0] = 1
        self.assertEqual(octets, [99, 5, 6, 1])


class MoveTest(unittest.TestCase):
    def test_apart(self):
        memory = Memory([1, 2, 3, 4, 5])
        self.assertIsNone(memory.move(0, 3, 2))
        self.assertEqual(memory.octets(), [4, 5, 3, 4, 5])

    def test_all_are_read_first(self):
        memory = Memory([1, 2, 3, 4, 5])
        memory.move(1, 0, 4)
        self.assertEqual(memory.octets(), [1, 1, 2, 3, 4])
        memory = Memory([1, 2, 3, 4, 5])
        memory.move(0, 1, 4)
        self.assertEqual(memory.octets(), [2, 3, 4, 5, 5])

    def test_upon_itself(self):
        memory = Memory([1, 2, 3])
        memory.move(0, 0, 3)
        self.assertEqual(memory.octets(), [1, 2, 3])

    def test_nothing(self):
        memory = Memory([1, 2, 3])
        memory.move(3, 3, 0)
        memory.move(0, 3, 0)
        Memory(0).move(0, 0, 0)
        self.assertEqual(memory.octets(), [1, 2, 3])

    def test_by_keyword(self):
        memory = Memory([1, 2, 3])
        memory.move(many=1, source=2, to=0)
        self.assertEqual(memory.octets(), [3, 2, 3])

    def test_bad_to(self):
        memory = Memory([1, 2, 3])
        for to, source, many in [(-1, 0, 1), (3, 0, 1), (2, 0, 2), (4, 0, 0), (-1, -2, 1), (-1, 0, 0),
                                 (2, 9, 2), (2 ** 70, 0, 1), (-2 ** 70, 0, 2 ** 70), (0, 1, 4)]:
            with self.assertRaises(BadAddress) as caught:
                memory.move(to, source, many)
            self.assertIs(caught.exception.octet, to)
        self.assertEqual(memory.octets(), [1, 2, 3])

    def test_bad_source(self):
        memory = Memory([1, 2, 3])
        for to, source, many in [(0, -1, 1), (0, 3, 1), (1, 2, 2), (0, 4, 0), (3, -1, 0), (0, 2 ** 70, 1)]:
            with self.assertRaises(BadAddress) as caught:
                memory.move(to, source, many)
            self.assertIs(caught.exception.octet, source)
        self.assertEqual(memory.octets(), [1, 2, 3])


if __name__ == "__main__":
    unittest.main()
