"""Programs: lists of deeds that set, copy, exchange, shift, turn and move what a memory holds.

A ROW has one thing for each bit of a memory, by its number. Deeds only put 0, 1 or things of the row in other
places of it; so the same deeds serve for the bits of one memory and for what is said of every memory.
CHANGES are a dict from the numbers of bits to the things that come there.
"""

from fieldberth.basics import bits_of, bits_of_octets, is_row, is_whole, octets_of_bits
from fieldberth.errors import BadPath, BadProgram
from fieldberth.memories import sized_octets


def is_program(layout, program):
    """Tell whether any object is a program of a layout."""
    return is_row(program) and all([is_deed(layout, deed) for deed in program])


def run(layout, program, octets):
    """Return the list of the octets that a program makes of a list of octets."""
    row = bits_of_octets(sized_octets(octets, layout.size))
    check_program(layout, program)
    return octets_of_bits(carried_out(layout, program, row))


def check_program(layout, program):
    """Raise BadProgram for the first deed that is none, or if there is no list of them."""
    if not is_row(program):
        raise BadProgram(None)
    for place, deed in enumerate(program):
        if not is_deed(layout, deed):
            raise BadProgram(place)


# What deeds are.


def is_deed(layout, deed):
    """Tell whether any object is a deed of a layout."""
    match deed:
        case ["set", path, number]:
            return has_integer(layout, path) and is_whole(number)
        case ["copy" | "swap", one, two]:
            return has_integer(layout, one) and has_integer(layout, two)
        case ["shift", path, many]:
            return has_integer(layout, path) and is_whole(many) and many != 0
        case ["turn", path]:
            return has_integer(layout, path) and width_at(layout, path) % 8 == 0
        case ["move", to, source, many]:
            return is_whole(many) and many > 0 and is_within(layout, to, many) and is_within(layout, source, many)
    return False


def width_at(layout, path):
    """Return how many bits the integer at a path has, 0 if any object leads to none."""
    try:
        bits, signed = layout.berth(path)
    except BadPath:
        return 0
    return len(bits)


def has_integer(layout, path):
    """Tell whether any object is a path to an integer of a layout."""
    return width_at(layout, path) > 0


def is_within(layout, start, many):
    """Tell whether any object is the first one of so many octets of a layout."""
    return is_whole(start) and start >= 0 and start + many <= layout.size


# What deeds do.


def carried_out(layout, program, row):
    """Return the row that the deeds of a checked program, one after another, make of a row."""
    for deed in program:
        changes = changes_by(layout, deed, row)
        row = [changes.get(bit, thing) for bit, thing in enumerate(row)]
    return row


def changes_by(layout, deed, row):
    """Return the changes that a deed makes in a row."""
    match deed:
        case ["set", path, number]:
            return set_changes(layout, path, number)
        case ["copy", to, source]:
            return copy_changes(layout, to, source, row)
        case ["swap", one, two]:
            return swap_changes(layout, one, two, row)
        case ["shift", path, many]:
            return shift_changes(layout, path, many, row)
        case ["turn", path]:
            return turn_changes(layout, path, row)
        case ["move", to, source, many]:
            return move_changes(to, source, many, row)
    return {}


def set_changes(layout, path, number):
    """Return the changes by which an integer gets the lowest bits of a number."""
    bits, signed = layout.berth(path)
    return dict(zip(bits, bits_of(number, len(bits))))


def copy_changes(layout, to, source, row):
    """Return the changes by which one integer gets the value of another one, cut to its bits."""
    bits, signed = layout.berth(to)
    held, beyond = held_things(layout, source, row)
    return {bit: held[place] if place < len(held) else beyond for place, bit in enumerate(bits)}


def swap_changes(layout, one, two, row):
    """Return the changes by which two integers get the values of one another."""
    written_first = copy_changes(layout, one, two, row)
    written_last = copy_changes(layout, two, one, row)
    # Where both share bits, what is written last stays.
    return {**written_first, **written_last}


def shift_changes(layout, path, many, row):
    """Return the changes by which the bits of an integer go up by many, or down by -many."""
    bits, signed = layout.berth(path)
    held, beyond = held_things(layout, path, row)
    changes = {}
    for place, bit in enumerate(bits):
        source = place - many
        if source < 0:
            changes[bit] = 0
        else:
            changes[bit] = held[source] if source < len(held) else beyond
    return changes


def turn_changes(layout, path, row):
    """Return the changes by which the octets of the value of an integer change their order."""
    bits, signed = layout.berth(path)
    # Bit j of an octet goes to bit j of its mirror.
    sources = [bits[len(bits) - 8 - (place - place % 8) + place % 8] for place in range(len(bits))]
    return {bit: row[source] for bit, source in zip(bits, sources)}


def move_changes(to, source, many, row):
    """Return the changes by which octets get what other ones hold."""
    return {8 * to + place: row[8 * source + place] for place in range(8 * many)}


def held_things(layout, path, row):
    """Return what an integer holds in a row, from its least bit on, and what goes on behind its greatest one."""
    bits, signed = layout.berth(path)
    held = [row[bit] for bit in bits]
    return held, held[-1] if signed else 0
