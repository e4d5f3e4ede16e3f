"""Wishes: what a memory shall hold in the end, and the shortest programs that make it so.

CODES are as in fieldberth.effects. What a wish WANTS is a list of pairs (bit, code), one for each bit that it
does not let go. A STEP is (deed, codes): a deed and what it makes of every memory.
"""

from fieldberth.basics import is_row, is_whole, number_of
from fieldberth.effects import codes_of
from fieldberth.errors import BadWish
from fieldberth.programs import has_integer, width_at


def fits(told, wish):
    """Tell whether an effect has what a wish wants at each bit."""
    return all([wanted is None or list(wanted) == list(thing) for thing, wanted in zip(told, wish)])


def wish_of(one, other):
    """Return the wish by which the integers of one layout come to their berths of another one; raise BadWish."""
    sources = [[] for bit in range(8 * max(one.size, other.size))]
    for path in one.paths():
        bits, signed = one.berth(path)
        if width_at(other, path) == len(bits):
            other_bits, other_signed = other.berth(path)
            for source, bit in zip(bits, other_bits):
                sources[bit].append(source)
    for bit, row in enumerate(sources):
        if row and max(row) != min(row):
            raise BadWish(bit)
    return [("bit", row[0]) if row else None for row in sources]


def readable(one, other):
    """Return the paths of one layout by which another one always reads the same value from the same place."""
    # The bits of a berth have unlike worths, so values are always equal only where the berths are.
    return [path for path in one.paths() if has_integer(other, path) and one.berth(path) == other.berth(path)]


def least_program(layout, wish, most):
    """Return the shortest program of at most so many chosen deeds that fits a wish, None if there is none."""
    if not is_wish(layout, wish):
        raise BadWish(None)
    wanted = [(bit, code_of(thing)) for bit, thing in enumerate(wish) if thing is not None]
    steps = [(deed, codes_of(layout, [deed])) for deed in chosen_deeds(layout, wish)]
    for many in range(most + 1):
        deeds = least_deeds(codes_of(layout, []), steps, wanted, many)
        if deeds is not None:
            return [new_deed(deed) for deed in deeds]
    return None


# What wishes are.


def is_wish(layout, wish):
    """Tell whether any object is a wish for a layout."""
    many = 8 * layout.size
    return is_row(wish) and len(wish) == many and all([is_wished(thing, many) for thing in wish])


def is_wished(thing, many):
    """Tell whether any object is what a wish for so many bits may have for one of them."""
    match thing:
        case None:
            return True
        case ["is", number]:
            return is_whole(number) and number in (0, 1)
        case ["bit", number]:
            return is_whole(number) and 0 <= number < many
    return False


def code_of(thing):
    """Return the code of what a wish has for a bit."""
    word, number = thing
    return number if word == "is" else 2 + number


# The search for programs.


def chosen_deeds(layout, wish):
    """Return the ascending list of the deeds of which programs are made for a wish."""
    paths = layout.paths()
    deeds = [("set", path, wished_number(layout, path, wish)) for path in paths]
    deeds.extend([("copy", to, source) for to in paths for source in paths if to != source])
    deeds.extend([("swap", one, two) for one in paths for two in paths if one < two])
    deeds.extend([("shift", path, many) for path in paths for many in range(-7, 8) if many != 0])
    deeds.extend([("turn", path) for path in paths if width_at(layout, path) % 8 == 0])
    deeds.extend(moves_within(layout.size))
    return sorted(deeds)


def wished_number(layout, path, wish):
    """Return the number from 0 on whose bits are 1 just where a wish wants 1 of the integer at a path."""
    bits, signed = layout.berth(path)
    ones = [1 if wish[bit] is not None and code_of(wish[bit]) == 1 else 0 for bit in bits]
    return number_of(ones, False)


def moves_within(size):
    """Return the deeds that move octets from one place to another one, within so many octets."""
    moves = []
    for many in range(1, size):
        starts = list(range(size - many + 1))
        moves.extend([("move", to, source, many) for to in starts for source in starts if to != source])
    return moves


def least_deeds(codes, steps, wanted, many):
    """Return the least list of just so many deeds that leads on from codes to what is wanted, None if there is none."""
    if many == 0:
        return [] if all([codes[bit] == code for bit, code in wanted]) else None
    # By the codes 0 and 1 a deed means these bits themselves, by the other ones what is there ahead of it.
    ahead = [0, 1, *codes]
    for deed, told in steps:
        rest = least_deeds([ahead[code] for code in told], steps, wanted, many - 1)
        if rest is not None:
            return [deed, *rest]
    return None


def new_deed(deed):
    """Return a deed in new tuples."""
    return tuple([tuple(list(part)) if isinstance(part, tuple) else part for part in deed])
