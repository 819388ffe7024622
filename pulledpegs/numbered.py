"""Sets by their numbers, and what tables tell, for what is known to be sets, rules and tables.

The number of a set is the sum of 2 ** (k - 1) over its pegs k, so numbers are compared bit by bit. A table is a list
or a tuple that tells at each number whether the set is kept.
"""


def number_of(pegs):
    """The number of a set."""
    number = 0
    for peg in pegs:
        number = number | (1 << (peg - 1))
    return number


def set_of(number):
    """The set with a number."""
    pegs = []
    peg = 1
    while number > 0:
        if number & 1 == 1:
            pegs.append(peg)
        number = number >> 1
        peg += 1
    return tuple(pegs)


def is_within(one, other):
    """Whether the set with the one number lies within that with the other one."""
    return one & other == one


def least_within(rule, kept):
    """The tuple of the least sets of a rule that lie within a set."""
    number = number_of(kept)
    return tuple([pegs for pegs in rule if is_within(number_of(pegs), number)])


def table_by(many, rule):
    """The table of a rule of so many pegs."""
    least = [number_of(pegs) for pegs in rule]
    return [holds_one(least, number) for number in range(1 << many)]


def holds_one(numbers, number):
    """Whether one of the sets with some numbers lies within the set with the number."""
    for one in numbers:
        if is_within(one, number):
            return True
    return False


def least_by(table):
    """The ascending tuple of the sets that are kept while none with one peg less is."""
    return tuple(sorted([set_of(at) for at, kept in enumerate(table) if kept and not _is_kept_below(table, at)]))


def _is_kept_below(table, number):
    for bit in _bits(table):
        if number & bit == bit and table[number ^ bit]:
            return True
    return False


def falling_by(table):
    """The ascending tuple of the sets that are not kept while all with one peg more are."""
    return tuple(sorted([set_of(at) for at, kept in enumerate(table) if not kept and not _falls_above(table, at)]))


def _falls_above(table, number):
    for bit in _bits(table):
        if number & bit == 0 and not table[number ^ bit]:
            return True
    return False


def _bits(table):
    """The numbers of the sets of one peg."""
    bits = [1]
    while 2 * bits[-1] < len(table):
        bits.append(2 * bits[-1])
    return bits


def breach_in(table):
    """The numbers of a set that is kept and of one with one peg more that is not, None if there are none."""
    for number, kept in enumerate(table):
        for bit in _bits(table):
            if kept and not table[number | bit]:
                return (number, number | bit)
    return None
