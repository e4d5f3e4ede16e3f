"""Facts: what is so of a memory, and what programs make of memories of which it is so.

CODES are as in fieldberth.effects: 0 and 1, or 2 + n for the bit n of the memory at first. A row has one code
for each bit. A NUMERAL is a pair (held, beyond) that tells a value: the codes of its bits, from the least one on,
and the code of all bits above these. So any two values are equal just if all their bits are, and each fact says of
some pairs of codes that they are equal. ROOTS have for each code the least one that it is equal to by some pairs.
"""

from fieldberth.basics import bits_of, bits_of_octets, is_whole, number_of, octets_of_bits
from fieldberth.effects import codes_of, told_code
from fieldberth.errors import BadFact
from fieldberth.memories import sized_octets
from fieldberth.programs import has_integer, held_things


def has_facts(layout, octets, facts):
    """Tell whether a memory has all facts of a list."""
    bits = bits_of_octets(sized_octets(octets, layout.size))
    check_facts(layout, facts)
    return are_equal(fact_pairs(layout, facts, bits))


def possible(layout, facts):
    """Return the least memory that has all facts of a list, None if there is none."""
    check_facts(layout, facts)
    roots = fact_roots(layout, [], facts)
    if roots is None:
        return None
    return memory_with(roots, 1)


def keeps(layout, before, program, after):
    """Return the least memory with some facts of which a program makes one that lacks others, None if there is none."""
    check_facts(layout, before)
    check_facts(layout, after)
    codes = codes_of(layout, program)
    roots = fact_roots(layout, [], before)
    if roots is None:
        return None
    parting = {}
    for one, other in fact_pairs(layout, after, [roots[code] for code in codes]):
        for code in parting_codes(one, other):
            parting[code] = True
    if not parting:
        return None
    return min([memory_with(roots, code) for code in list(parting)])


def follows(layout, before, program):
    """Return all facts that a program makes of every memory with some facts, None if no memory has these."""
    check_facts(layout, before)
    codes = codes_of(layout, program)
    roots = fact_roots(layout, [], before)
    if roots is None:
        return None
    row = [roots[code] for code in codes]
    numerals = [(path, held_things(layout, path, row)) for path in sorted(layout.paths())]
    return known_numbers(numerals) + known_sames(numerals)


def needed(layout, program, after):
    """Return what a memory must have for a program to make facts of it, None if it makes them of none."""
    check_facts(layout, after)
    roots = fact_roots(layout, program, after)
    if roots is None:
        return None
    return [told_code(root) if root < 2 + bit else None for bit, root in enumerate(roots[2:])]


# What facts are, and what they say of bits.


def check_facts(layout, facts):
    """Raise BadFact for the first thing that is no fact by a layout."""
    for fact in facts:
        if not is_fact(layout, fact):
            raise BadFact(fact)


def is_fact(layout, fact):
    """Tell whether any object is a fact by a layout."""
    match fact:
        case ["is", path, number]:
            return has_integer(layout, path) and is_whole(number)
        case ["same", one, two]:
            return has_integer(layout, one) and has_integer(layout, two)
    return False


def fact_pairs(layout, facts, row):
    """Return the pairs of codes in a row that must be equal for all of checked facts."""
    pairs = []
    for word, path, last in facts:
        other = numeral_of(last) if word == "is" else held_things(layout, last, row)
        pairs.extend(equal_pairs(held_things(layout, path, row), other))
    return pairs


def numeral_of(number):
    """Return the numeral of a number."""
    return bits_of(number, number.bit_length()), 1 if number < 0 else 0


def equal_pairs(one, other):
    """Return the pairs of codes that must be equal for two numerals to tell the same value."""
    # What is beyond the longer one is as far as any two can differ.
    many = max(len(one[0]), len(other[0])) + 1
    return list(zip(stretched(one, many), stretched(other, many)))


def stretched(numeral, many):
    """Return the lowest codes of a numeral, so many of them."""
    held, beyond = numeral
    return held + [beyond] * (many - len(held))


def are_equal(pairs):
    """Tell whether the codes of each pair are equal."""
    return all([one == other for one, other in pairs])


# What pairs say together.


def fact_roots(layout, program, facts):
    """Return the roots of a memory of which a program makes checked facts, None if there is none; raise BadProgram."""
    codes = codes_of(layout, program)
    least = list(range(2 + len(codes)))
    for one, other in fact_pairs(layout, facts, codes):
        low, high = sorted([root_of(least, one), root_of(least, other)])
        least[high] = low
    if least[1] == 0:
        return None
    return [root_of(least, code) for code in range(len(least))]


def root_of(least, code):
    """Return the last one of the codes that lead down from a code."""
    root = code
    while least[root] != root:
        root = least[root]
    return root


def memory_with(roots, code):
    """Return the least memory by some roots in which the bits with that root are 1."""
    return octets_of_bits([1 if root in (1, code) else 0 for root in roots[2:]])


def parting_codes(one, other):
    """Return the roots of which one must be 1 in the least memories in which two roots are unlike."""
    if one == other:
        return []
    if 1 in (one, other):
        # Unlike 1 is each root that is 0, so the least memory of all will do.
        return [1]
    return [code for code in (one, other) if code != 0]


# What is told of every memory.


def known_numbers(numerals):
    """Return the facts that tell numbers, for an ascending list of pairs (path, numeral)."""
    facts = []
    for path, (held, beyond) in numerals:
        if max(held) < 2:
            facts.append(("is", tuple(list(path)), number_of([*held, beyond], True)))
    return facts


def known_sames(numerals):
    """Return the facts that tell equal values, for an ascending list of pairs (path, numeral)."""
    facts = []
    for place, (one, numeral) in enumerate(numerals):
        for two, other in numerals[place + 1:]:
            if are_equal(equal_pairs(numeral, other)):
                facts.append(("same", tuple(list(one)), tuple(list(two))))
    return facts
