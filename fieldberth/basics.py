"""What several modules ask of plain objects and numbers."""


def is_whole(value):
    """Tell whether an object is an integer; bools are none."""
    return isinstance(value, int) and not isinstance(value, bool)


def is_row(value):
    """Tell whether an object is a list or a tuple: each is accepted for the other one."""
    return isinstance(value, (list, tuple))


def up(number, step):
    """Return the least multiple of step that is number or more."""
    return (number + step - 1) // step * step


def number_of(bits, signed):
    """Return the number whose bits these are, from the least one on, in two's complement if it is signed."""
    number = sum([bit << place for place, bit in enumerate(bits)])
    if signed:
        return number - (bits[-1] << len(bits))
    return number


def bits_of(number, many):
    """Return the lowest bits of a number, so many of them, from the least one on."""
    return [(number >> place) & 1 for place in range(many)]


def bits_of_octets(octets):
    """Return the bits of a list of octets, by their numbers."""
    return [bit for octet in octets for bit in bits_of(octet, 8)]


def octets_of_bits(bits):
    """Return the octets that have these bits."""
    return [number_of(bits[first:first + 8], False) for first in range(0, len(bits), 8)]
