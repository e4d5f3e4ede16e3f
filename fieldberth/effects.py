"""Effects: what programs make of every memory.

Within this module a CODE tells what a bit is in the end: 0 or 1, or 2 + n for the bit n of the memory at first.
"""

from fieldberth.basics import bits_of_octets, octets_of_bits
from fieldberth.memories import sized_octets
from fieldberth.programs import carried_out, check_program


def effect(layout, program):
    """Return the list of what a program makes of each bit of a memory."""
    return [told_code(code) for code in codes_of(layout, program)]


def followed(first, second):
    """Return the effect of two programs, one after another, that have these effects."""
    return [seen_through(first, word, number) for word, number in second]


def same_effect(layout, one, two):
    """Return the least memory of which two programs make unlike ones, None if there is none."""
    first = codes_of(layout, one)
    second = codes_of(layout, two)
    parting = [parting_bit(code, other) for code, other in zip(first, second) if code != other]
    if not parting:
        return None
    bits = [0] * (8 * layout.size)
    if None not in parting:
        bits[max(parting, key=rank)] = 1
    return octets_of_bits(bits)


def lost(layout, program):
    """Return the ascending list of the bits of the memory at first that no bit has in the end."""
    return lost_bits(codes_of(layout, program))


def mate(layout, program, octets):
    """Return the least other memory of which a program makes the same as of octets, None if there is none."""
    held = sized_octets(octets, layout.size)
    free = lost(layout, program)
    if not free:
        return None
    bits = bits_of_octets(held)
    for bit in free:
        bits[bit] = 0
    if octets_of_bits(bits) == held:
        bits[max(free, key=rank)] = 1
    return octets_of_bits(bits)


def turned_back(layout, program):
    """Return the effect that leads each result back to the memory at first, None if a bit is lost."""
    codes = codes_of(layout, program)
    if lost_bits(codes):
        return None
    places = {code: place for place, code in enumerate(codes)}
    return [("bit", places[2 + bit]) for bit in range(len(codes))]


def codes_of(layout, program):
    """Return the codes of all bits behind a program; raise BadProgram."""
    check_program(layout, program)
    return carried_out(layout, program, [2 + bit for bit in range(8 * layout.size)])


def told_code(code):
    """Return what a code tells, as in effects."""
    if code < 2:
        return "is", code
    return "bit", code - 2


def seen_through(first, word, number):
    """Return what a second effect tells of a bit, told by the memory that the first one begins with."""
    if word == "is":
        return word, number
    earlier_word, earlier_number = first[number]
    return earlier_word, earlier_number


def lost_bits(codes):
    """Return the ascending list of the bits that no code tells of."""
    kept = {code: True for code in codes}
    return [bit for bit in range(len(codes)) if 2 + bit not in kept]


def rank(bit):
    """Return the place that a bit has in the order of memories: those of a lower rank count for more."""
    return 8 * (bit // 8) + 7 - bit % 8


def parting_bit(one, two):
    """Return the bit that alone is 1 in the least memory for which two codes differ, None if it has no such bit."""
    low = min(one, two)
    high = max(one, two)
    if low == 1 or high == 1:
        return None
    if low == 0:
        return high - 2
    return max(one - 2, two - 2, key=rank)
