"""What several tests use: numbers that look random, deep comparisons, and a slow plain reading of deeds.

The plain reading goes by values (points 17, 19 and 20), not by bits as the package does.
"""

NO_INTEGERS = [None, True, False, "0", "", [], [0], (), (0, 1), {}, {0: 1}, 1.0]


class Numbers:
    """Numbers that look random and are the same in each run."""

    def __init__(self, seed):
        self.state = seed

    def below(self, many):
        self.state = (self.state * 6364136223846793005 + 1442695040888963407) % 2 ** 64
        return (self.state >> 33) % many

    def one_of(self, things):
        return things[self.below(len(things))]

    def octets(self, many):
        return [self.below(256) for k in range(many)]


def inner_rows(thing):
    """All lists, dicts and tuples in a thing, itself included; the empty tuple is one object everywhere."""
    rows = []
    if isinstance(thing, dict):
        rows.append(thing)
        for key, value in thing.items():
            rows.extend(inner_rows(key) + inner_rows(value))
    elif isinstance(thing, (list, tuple)):
        if thing != ():
            rows.append(thing)
        for value in thing:
            rows.extend(inner_rows(value))
    return rows


def share_nothing(one, other):
    """Tell whether no list, dict or tuple is in both things."""
    known = {id(row) for row in inner_rows(one)}
    return not [row for row in inner_rows(other) if id(row) in known]


def as_lists(thing):
    """The same with lists in the place of tuples."""
    if isinstance(thing, (list, tuple)):
        return [as_lists(value) for value in thing]
    return thing


def as_tuples(thing):
    """The same with tuples in the place of lists."""
    if isinstance(thing, (list, tuple)):
        return tuple(as_tuples(value) for value in thing)
    return thing


# The plain reading. A memory is one integer here: bit n of the memory is its bit n.


def memory_of(octets):
    return int.from_bytes(bytes(octets), "little")


def octets_of(memory, size):
    return list(memory.to_bytes(size, "little"))


def value_in(layout, memory, path):
    bits, signed = layout.berth(path)
    value = 0
    for place in range(len(bits)):
        if memory & 2 ** bits[place]:
            value += 2 ** place
    if signed and value >= 2 ** (len(bits) - 1):
        value -= 2 ** len(bits)
    return value


def with_value(layout, memory, path, value):
    bits, signed = layout.berth(path)
    value %= 2 ** len(bits)
    for place in range(len(bits)):
        memory &= ~(2 ** bits[place])
        memory |= value // 2 ** place % 2 * 2 ** bits[place]
    return memory


def plain_deed(layout, deed, memory):
    word = deed[0]
    if word == "move":
        to, source, many = deed[1:]
        octets = octets_of(memory, layout.size)
        read = octets[source:source + many]
        for k in range(many):
            octets[to + k] = read[k]
        return memory_of(octets)
    if word == "set":
        return with_value(layout, memory, deed[1], deed[2])
    value = value_in(layout, memory, deed[1])
    if word == "copy":
        return with_value(layout, memory, deed[1], value_in(layout, memory, deed[2]))
    if word == "swap":
        other = value_in(layout, memory, deed[2])
        return with_value(layout, with_value(layout, memory, deed[1], other), deed[2], value)
    width = len(layout.berth(deed[1])[0])
    if word == "shift":
        many = deed[2]
        # Python's own shift down carries the sign on.
        return with_value(layout, memory, deed[1], value * 2 ** many if many > 0 else value // 2 ** -many)
    turned = (value % 2 ** width).to_bytes(width // 8, "little")
    return with_value(layout, memory, deed[1], int.from_bytes(turned, "big"))


def plain_run(layout, program, octets):
    memory = memory_of(octets)
    for deed in program:
        memory = plain_deed(layout, deed, memory)
    return octets_of(memory, layout.size)


def plain_effect_on(told, octets):
    """What an effect makes of a list of octets."""
    memory = memory_of(octets)
    result = 0
    for place, (word, number) in enumerate(told):
        bit = number if word == "is" else memory // 2 ** number % 2
        result += bit * 2 ** place
    return octets_of(result, len(octets))


def made_up_deed(numbers, layout):
    """Some deed of a layout, None if there is none of the sort that came up."""
    sort = numbers.below(6)
    paths = layout.paths()
    if sort == 5:
        if layout.size == 0:
            return None
        many = 1 + numbers.below(layout.size)
        return "move", numbers.below(layout.size - many + 1), numbers.below(layout.size - many + 1), many
    if not paths:
        return None
    one, two = numbers.one_of(paths), numbers.one_of(paths)
    if sort == 0:
        return "set", one, numbers.one_of([0, -1, numbers.below(256), numbers.below(2 ** 31) ** 2, -numbers.below(70000)])
    if sort == 1:
        return "copy", one, two
    if sort == 2:
        return "swap", one, two
    if sort == 3:
        many = numbers.one_of([1, 2, 3, 7, 8, 9, 15, 16, 31, 32, 63, 64, 65, 100])
        return "shift", one, numbers.one_of([many, -many])
    if len(layout.berth(one)[0]) % 8 == 0:
        return "turn", one
    return None


def made_up_program(numbers, layout, most):
    deeds = [made_up_deed(numbers, layout) for k in range(numbers.below(most + 1))]
    return [deed for deed in deeds if deed is not None]
