"""Points 23 to 31 once more: made-up layouts, wishes and facts, judged by going through all memories or all choices.

A memory has a NUMBER here, by which memories are ordered as their lists of octets are: its first octet is the
greatest one. A TABLE has something for each memory, by these numbers.
"""

import itertools
import unittest

from fieldberth.effects import effect
from fieldberth.errors import BadWish
from fieldberth.facts import follows, has_facts, keeps, needed, possible
from fieldberth.layouts import struct, union
from fieldberth.wishes import fits, least_program, readable, wish_of
from fieldberth.writes import least_writes
from tests.plain import (Numbers, made_up_program, memory_of, octets_of, plain_effect_on, plain_run, value_in,
                         with_value)
from tests.test_second_programs import made_up_layout, results, small_layout


def octets_by(number, size):
    return list(number.to_bytes(size, "big"))


def value_table(layout, path):
    """The values of an integer: each bit counts for itself, whatever the other ones are."""
    size = layout.size
    table = [0]
    for bit in range(8 * size):
        worth = value_in(layout, memory_of(octets_by(1 << bit, size)), path)
        table.extend([value + worth for value in table])
    return table


def made_up_facts(numbers, layout, most):
    paths = layout.paths()
    facts = []
    for k in range(numbers.below(most + 1)):
        one, two = numbers.one_of(paths), numbers.one_of(paths)
        many = len(layout.berth(one)[0])
        number = numbers.below(1 << many)
        near = [number, number, number - (1 << many), number >> 1, -number, 0, -1, 1 << many]
        facts.append(numbers.one_of([("is", one, numbers.one_of(near)), ("same", one, two), ("same", one, two)]))
    return facts


def is_so(fact, values, number):
    word, path, last = fact
    return values[path][number] == (last if word == "is" else values[last][number])


class FactsTest(unittest.TestCase):
    def agree(self, layout, numbers):
        """Hold all functions of facts against all memories; return how often each found something."""
        size = layout.size
        program = made_up_program(numbers, layout, 3)
        before, after = made_up_facts(numbers, layout, 2), made_up_facts(numbers, layout, 2)
        values = {path: value_table(layout, path) for path in layout.paths()}
        made = results(layout, program)
        having = [number for number in range(256 ** size) if all(is_so(fact, values, number) for fact in before)]
        good = [number for number in range(256 ** size) if all(is_so(fact, values, made[number]) for fact in after)]
        told = (program, before, after)
        for number in [numbers.below(256 ** size), *having[:1], *having[-1:]]:
            self.assertIs(has_facts(layout, octets_by(number, size), before), number in having, told)
        self.assertEqual(possible(layout, before), octets_by(having[0], size) if having else None, told)
        lacking = sorted(set(having) - set(good))
        self.assertEqual(keeps(layout, before, program, after), octets_by(lacking[0], size) if lacking else None, told)
        self.assertEqual(follows(layout, before, program), self.all_facts(layout, values, made, having), told)
        self.assertEqual(needed(layout, program, after), self.all_needs(size, good), told)
        return having != [], lacking != [], good != []

    def all_facts(self, layout, values, made, having):
        if not having:
            return None
        paths = sorted(layout.paths())
        ends = [made[number] for number in having]
        told = [("is", path, values[path][ends[0]]) for path in paths if len({values[path][end] for end in ends}) == 1]
        for one, two in itertools.combinations(paths, 2):
            if all(values[one][end] == values[two][end] for end in ends):
                told.append(("same", one, two))
        return told

    def all_needs(self, size, good):
        if not good:
            return None
        memories = [memory_of(octets_by(number, size)) for number in good]
        columns = []
        wanted = []
        for bit in range(8 * size):
            column = [memory >> bit & 1 for memory in memories]
            if len(set(column)) == 1:
                wanted.append(("is", column[0]))
            elif column in columns:
                wanted.append(("bit", columns.index(column)))
            else:
                wanted.append(None)
            columns.append(column)
        return wanted

    def test_one_octet(self):
        numbers = Numbers(41)
        found = [self.agree(small_layout(numbers, 1), numbers) for k in range(700)]
        for place in range(3):
            self.assertTrue(150 < sum([row[place] for row in found]) < 690, place)

    def test_two_octets(self):
        numbers = Numbers(42)
        for k in range(12):
            self.agree(small_layout(numbers, 2), numbers)

    def test_great_layouts(self):
        # There are too many memories to go through; what is told of them is tried.
        numbers = Numbers(43)
        held = 0
        for k in range(300):
            layout = made_up_layout(numbers, 64)
            if not layout.paths():
                continue
            program = made_up_program(numbers, layout, 12)
            before, after = made_up_facts(numbers, layout, 3), made_up_facts(numbers, layout, 2)
            octets = possible(layout, before)
            if octets is None:
                self.assertIsNone(follows(layout, before, program))
                self.assertIsNone(keeps(layout, before, program, after))
                continue
            self.assertIs(has_facts(layout, octets, before), True)
            behind = plain_run(layout, program, octets)
            self.assertIs(has_facts(layout, behind, follows(layout, before, program)), True)
            lacking = keeps(layout, before, program, after)
            if lacking is None:
                held += 1
                self.assertIs(has_facts(layout, behind, after), True)
            else:
                self.assertIs(has_facts(layout, lacking, before), True)
                self.assertIs(has_facts(layout, plain_run(layout, program, lacking), after), False)
            self.fulfilled(layout, program, after, numbers)
        self.assertGreater(held, 30)

    def fulfilled(self, layout, program, after, numbers):
        """What is needed makes the facts, whatever the bits are that are let go."""
        wants = needed(layout, program, after)
        if wants is not None:
            row = []
            for want in wants:
                row.append(numbers.below(2) if want is None else want[1] if want[0] == "is" else row[want[1]])
            octets = octets_of(sum([bit << place for place, bit in enumerate(row)]), layout.size)
            self.assertIs(has_facts(layout, plain_run(layout, program, octets), after), True)


def all_chosen(layout, wish):
    """The chosen deeds of point 24, each of them twice over where the document tells of it twice."""
    paths = sorted(layout.paths())
    deeds = []
    for path in paths:
        bits = layout.berth(path)[0]
        deeds.append(("set", path, sum([1 << place for place in range(len(bits)) if wish[bits[place]] == ("is", 1)])))
        deeds.extend([("shift", path, many) for many in (-7, -6, -5, -4, -3, -2, -1, 1, 2, 3, 4, 5, 6, 7)])
        if len(bits) in (8, 16, 24, 32):
            deeds.append(("turn", path))
    deeds.extend([("copy", *pair) for pair in itertools.permutations(paths, 2)])
    deeds.extend([("swap", *pair) for pair in itertools.combinations(paths, 2)])
    for to, source in itertools.permutations(range(layout.size), 2):
        deeds.extend([("move", to, source, many) for many in range(1, layout.size - max(to, source) + 1)])
    return sorted(deeds)


def columns_of(layout, program):
    """What a program makes of the memory of zeros and of those with a single 1: by these it is known."""
    size = layout.size
    memories = [0] + [1 << bit for bit in range(8 * size)]
    return [memory_of(plain_run(layout, program, octets_of(memory, size))) for memory in memories]


def plain_fits(columns, wish):
    for place, thing in enumerate(wish):
        if thing is not None:
            row = [column >> place & 1 for column in columns]
            wanted = [thing[1]] * len(row) if thing[0] == "is" else [int(k == thing[1] + 1) for k in range(len(row))]
            if row != wanted:
                return False
    return True


class LeastProgramTest(unittest.TestCase):
    def wish_for(self, numbers, layout):
        """A wish that often has programs of one deed or two: an effect of which some bits are let go."""
        many = 8 * layout.size
        wish = effect(layout, made_up_program(numbers, layout, 2))
        deeds = all_chosen(layout, wish)
        if numbers.below(4):
            wish = effect(layout, [numbers.one_of(deeds) for k in range(1 + numbers.below(2))])
        let_go = numbers.one_of([0, many // 4, many // 2, many - 2])
        for k in range(let_go):
            wish[numbers.below(many)] = None
        if numbers.below(8) == 0:
            wish[numbers.below(many)] = numbers.one_of([("is", 0), ("is", 1), ("bit", numbers.below(many))])
        return wish

    def least(self, layout, wish, most):
        deeds = all_chosen(layout, wish)
        for many in range(most + 1):
            for program in itertools.product(deeds, repeat=many):
                if plain_fits(columns_of(layout, program), wish):
                    return list(program)
        return None

    def test_one_deed(self):
        numbers = Numbers(44)
        found = {}
        for k in range(150):
            layout = small_layout(numbers, 1 + k % 2) if k % 3 else made_up_layout(numbers, 4)
            wish = self.wish_for(numbers, layout) if layout.size else []
            wanted = self.least(layout, wish, 1)
            self.assertEqual(least_program(layout, wish, 1), wanted, wish)
            self.assertIs(fits(effect(layout, wanted or []), wish), wanted is not None)
            found[None if wanted is None else len(wanted)] = True
        self.assertEqual(len(found), 3)

    def test_two_deeds(self):
        numbers = Numbers(45)
        found = {}
        while len(found) < 8:
            layout = small_layout(numbers, 1)
            wish = self.wish_for(numbers, layout)
            wanted = least_program(layout, wish, 2)
            if wanted is not None and len(wanted) < 2:
                continue
            self.assertEqual(wanted, self.quickly(layout, wish), wish)
            found[len(found)] = wanted
        self.assertIn(None, found.values())

    def quickly(self, layout, wish):
        """As least for two deeds: the columns of the second one are looked up by numbers."""
        deeds = all_chosen(layout, wish)
        tables = [[plain_run(layout, [deed], [memory])[0] for memory in range(256)] for deed in deeds]
        starts = [0] + [1 << bit for bit in range(8)]
        for first, table in zip(deeds, tables):
            for second, other in zip(deeds, tables):
                if plain_fits([other[table[start]] for start in starts], wish):
                    return [first, second]
        return None


class WishOfTest(unittest.TestCase):
    def test_what_is_read_by_the_one_is_read_by_the_other(self):
        numbers = Numbers(46)
        refused = 0
        for k in range(300):
            one, other = self.two_layouts(numbers)
            size = max(one.size, other.size)
            shared = [path for path in one.paths() if path in other.paths()
                      and len(one.berth(path)[0]) == len(other.berth(path)[0])]
            wanted = {}
            for path in shared:
                for source, to in zip(one.berth(path)[0], other.berth(path)[0]):
                    wanted.setdefault(to, set()).add(source)
            unlike = [bit for bit in sorted(wanted) if len(wanted[bit]) > 1]
            if unlike:
                refused += 1
                with self.assertRaises(BadWish) as caught:
                    wish_of(one, other)
                self.assertEqual(caught.exception.bit, unlike[0])
                continue
            wish = wish_of(one, other)
            self.assertEqual([bit for bit, thing in enumerate(wish) if thing is not None], sorted(wanted))
            octets = numbers.octets(size)
            told = [("is", numbers.below(2)) if thing is None else thing for thing in wish]
            held, made = memory_of(octets), memory_of(plain_effect_on(told, octets))
            for path in shared:
                many = len(one.berth(path)[0])
                self.assertEqual(value_in(other, made, path) % 2 ** many, value_in(one, held, path) % 2 ** many)
        self.assertTrue(20 < refused < 270, refused)

    def two_layouts(self, numbers):
        """Two layouts of nearly the same members, in other orders and with other options."""
        layouts = []
        for k in range(2):
            members = []
            for name in ("a", "b", "c", "d"):
                kind = ("int", numbers.one_of([1, 1, 1, 2]), numbers.below(2) == 0)
                member = numbers.one_of([(name, kind), (name, kind), (name, kind, 5), (name, ("array", kind, 2))])
                members.insert(numbers.one_of([len(members), numbers.below(len(members) + 1)]), member)
            options = {"ends": numbers.one_of(["little", "big"]), "pack": numbers.one_of([None, 1]),
                       "convention": numbers.one_of(["sysv", "msvc"])}
            if numbers.below(3) == 0:
                members = [(None, struct(members[:2], **options)), *members[2:]]
            make = numbers.one_of([struct, union])
            layouts.append(make(members, **options))
        return layouts

    def test_readable(self):
        numbers = Numbers(47)
        found = 0
        for k in range(300):
            one, other = self.two_layouts(numbers)
            size = max(one.size, other.size)
            memories = [0] + [1 << bit for bit in range(8 * size)] + [memory_of(numbers.octets(size)) for k in range(3)]
            wanted = [path for path in one.paths() if path in other.paths()
                      and all(value_in(one, memory, path) == value_in(other, memory, path) for memory in memories)]
            self.assertEqual(readable(one, other), wanted)
            found += len(wanted) > 0
        self.assertTrue(30 < found < 270, found)


class LeastWritesTest(unittest.TestCase):
    def least(self, layout, old, new):
        paths = sorted(layout.paths())
        for many in range(len(paths) + 1):
            for choice in itertools.combinations(paths, many):
                memory = memory_of(old)
                for path in choice:
                    memory = with_value(layout, memory, path, value_in(layout, memory_of(new), path))
                if memory == memory_of(new):
                    return list(choice)
        return None

    def test_made_up_memories(self):
        numbers = Numbers(48)
        found = {}
        for k in range(900):
            layout = small_layout(numbers, 1 + k % 2) if k % 3 else made_up_layout(numbers, 40)
            if len(layout.paths()) > 8:
                continue
            old = numbers.octets(layout.size)
            new = list(old)
            for path in layout.paths():
                if numbers.below(2):
                    new = octets_of(with_value(layout, memory_of(new), path, numbers.below(1 << 40)), layout.size)
            if layout.size and numbers.below(5) == 0:
                new[numbers.below(layout.size)] ^= 1 << numbers.below(8)
            wanted = self.least(layout, old, new)
            self.assertEqual(least_writes(layout, old, new), wanted, (old, new))
            many = None if wanted is None else len(wanted)
            found[many] = found.get(many, 0) + 1
        for many in (None, 0, 1, 2, 3):
            self.assertGreater(found.get(many, 0), 5, found)


if __name__ == "__main__":
    unittest.main()
