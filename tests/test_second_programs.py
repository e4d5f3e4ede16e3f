"""Points 17 to 22 once more: many made-up layouts and programs, run a second time by the plain reading.

What is said of every memory is held against all memories of one and of two octets, in their order.
"""

import unittest

from fieldberth.effects import effect, followed, lost, mate, same_effect, turned_back
from fieldberth.layouts import struct, union
from fieldberth.memories import Memory
from fieldberth.programs import is_program, run
from fieldberth.views import View
from tests.plain import (Numbers, made_up_program, memory_of, octets_of, plain_effect_on, plain_run, value_in,
                         with_value)
from tests.test_second_reading import as_kind, made_up


def made_up_layout(numbers, most):
    """A layout of at most so many octets."""
    while True:
        layout = as_kind(made_up(numbers, numbers.below(4), []))
        if layout.size <= most:
            return layout


def small_layout(numbers, size):
    """A layout of one or two octets whose integers share bits now and then."""
    sort = numbers.one_of([("int", 1, False), ("int", 1, True), ("int", size, False), ("int", size, True)])
    ends = numbers.one_of(["little", "big"])
    fields = struct([("p", sort, 1 + numbers.below(8)), ("q", ("int", 1, True), 1 + numbers.below(8))], pack=1, ends=ends)
    members = [(None, fields), ("r", ("int", size, True)), ("o", ("array", ("int", 1, False), size)),
               ("s", ("int", size, False), 1 + numbers.below(8 * size))]
    first = numbers.below(3)
    layout = union(members[first:first + 2], ends=numbers.one_of(["little", "big"]), pack=1)
    if layout.size == size:
        return layout
    return small_layout(numbers, size)


def results(layout, program):
    """What a program makes of all memories, by their numbers; both with the first octet as the greatest one."""
    size = layout.size
    table = [int.from_bytes(bytes(plain_run(layout, program, [0] * size)), "big")]
    for bit in range(8 * size):
        single = list((2 ** bit).to_bytes(size, "big"))
        change = int.from_bytes(bytes(plain_run(layout, program, single)), "big") ^ table[0]
        table.extend([result ^ change for result in table])
    return table


class RunTest(unittest.TestCase):
    def test_programs(self):
        numbers = Numbers(11)
        for k in range(1200):
            layout = made_up_layout(numbers, 64)
            program = made_up_program(numbers, layout, 12)
            octets = numbers.octets(layout.size)
            self.assertIs(is_program(layout, program), True)
            self.assertEqual(run(layout, program, octets), plain_run(layout, program, octets), (program, octets))

    def test_single_deeds(self):
        numbers = Numbers(12)
        for k in range(2500):
            layout = small_layout(numbers, 1 + k % 2)
            program = made_up_program(numbers, layout, 1)
            octets = numbers.octets(layout.size)
            self.assertEqual(run(layout, program, octets), plain_run(layout, program, octets), (program, octets))


class EffectTest(unittest.TestCase):
    def agree(self, layout, program, numbers):
        told = effect(layout, program)
        self.assertEqual(len(told), 8 * layout.size)
        memories = [[0] * layout.size, [255] * layout.size] + [numbers.octets(layout.size) for k in range(3)]
        bit = numbers.below(8 * layout.size + 1)
        if bit < 8 * layout.size:
            memories.append(octets_of(2 ** bit, layout.size))
        for octets in memories:
            self.assertEqual(plain_effect_on(told, octets), plain_run(layout, program, octets), (program, octets))

    def test_effects(self):
        numbers = Numbers(13)
        for k in range(500):
            layout = made_up_layout(numbers, 64)
            self.agree(layout, made_up_program(numbers, layout, 12), numbers)

    def test_effects_of_small_layouts(self):
        numbers = Numbers(14)
        for k in range(1000):
            layout = small_layout(numbers, 1 + k % 2)
            self.agree(layout, made_up_program(numbers, layout, 4), numbers)

    def test_followed(self):
        numbers = Numbers(15)
        for k in range(400):
            layout = made_up_layout(numbers, 30)
            one, two = made_up_program(numbers, layout, 5), made_up_program(numbers, layout, 5)
            self.assertEqual(followed(effect(layout, one), effect(layout, two)), effect(layout, one + two))

    def test_lost_and_turned_back(self):
        numbers = Numbers(16)
        led_back = 0
        for k in range(600):
            layout = made_up_layout(numbers, 12) if k % 2 else small_layout(numbers, 2)
            program = [deed for deed in made_up_program(numbers, layout, 3) if k % 3 or deed[0] in ("swap", "turn")]
            empty = plain_run(layout, program, [0] * layout.size)
            gone = [bit for bit in range(8 * layout.size)
                    if plain_run(layout, program, octets_of(2 ** bit, layout.size)) == empty]
            self.assertEqual(lost(layout, program), gone, program)
            back = turned_back(layout, program)
            self.assertEqual(back is None, gone != [])
            if back is not None:
                led_back += len(program) > 0
                for octets in [numbers.octets(layout.size) for k in range(3)]:
                    self.assertEqual(plain_effect_on(back, plain_run(layout, program, octets)), octets)
        self.assertGreater(led_back, 50)


class EveryMemoryTest(unittest.TestCase):
    def same_and_mates(self, layout, one, two, numbers):
        """Hold same_effect and mate against all memories; tell whether the programs part."""
        size = layout.size
        table, other = results(layout, one), results(layout, two)
        parting = [number for number in range(256 ** size) if table[number] != other[number]]
        wanted = list(parting[0].to_bytes(size, "big")) if parting else None
        self.assertEqual(same_effect(layout, one, two), wanted, (one, two))
        number = numbers.below(256 ** size)
        mates = [k for k in range(256 ** size) if table[k] == table[number] and k != number]
        for held in [number] + mates[:1]:
            rest = [k for k in [number] + mates if k != held]
            wanted = list(min(rest).to_bytes(size, "big")) if rest else None
            self.assertEqual(mate(layout, one, list(held.to_bytes(size, "big"))), wanted, (one, held))
        return parting != []

    def test_one_octet(self):
        numbers = Numbers(17)
        parted = 0
        for k in range(500):
            layout = small_layout(numbers, 1)
            one, two = made_up_program(numbers, layout, 3), made_up_program(numbers, layout, 3)
            parted += self.same_and_mates(layout, one, two, numbers)
        self.assertTrue(100 < parted < 480, parted)

    def test_two_octets(self):
        numbers = Numbers(18)
        for k in range(30):
            layout = small_layout(numbers, 2)
            one = made_up_program(numbers, layout, 3)
            two = one + made_up_program(numbers, layout, 1) if k % 2 else made_up_program(numbers, layout, 3)
            self.same_and_mates(layout, one, two, numbers)


class ViewTest(unittest.TestCase):
    def test_reading_and_writing(self):
        numbers = Numbers(19)
        for k in range(300):
            layout = made_up_layout(numbers, 64)
            address = numbers.below(20)
            octets = numbers.octets(layout.size + address + numbers.below(4))
            memory = Memory(octets)
            view = View(memory, layout, address)
            for path in layout.paths():
                inside = memory_of(memory.octets()[address:address + layout.size])
                self.assertEqual(view.read(path), value_in(layout, inside, path))
                value = numbers.one_of([1, -1]) * (numbers.below(2 ** 31) ** 2 >> numbers.below(62))
                view.write(path, value)
                inside = octets_of(with_value(layout, inside, path, value), layout.size)
                self.assertEqual(memory.octets(),
                                 octets[:address] + inside + octets[address + layout.size:])

    def test_parts_and_wholes(self):
        numbers = Numbers(20)
        for k in range(200):
            layout = made_up_layout(numbers, 64)
            view = View(Memory(numbers.octets(layout.size + 5)), layout, 5)
            whole = view.whole()
            for path in layout.paths():
                thing = whole
                for place in range(len(path)):
                    part = view.part(path[:place])
                    self.assertEqual(part.whole(), thing)
                    self.assertEqual(part.read(path[place:]), view.read(path))
                    self.assertEqual(part.address, 5 + layout.octet_at(path[:place]))
                    thing = thing[path[place]]
                self.assertEqual(thing, view.read(path))


if __name__ == "__main__":
    unittest.main()
