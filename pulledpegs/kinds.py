"""What any value is: tests that raise nothing, whatever they are asked about."""


def is_integer(thing):
    """Whether any value is an integer, which True and False are not."""
    return isinstance(thing, int) and not isinstance(thing, bool)


def is_peg(many, thing):
    """Whether any value is a peg of a wall of so many pegs."""
    return is_integer(thing) and 1 <= thing <= many


def is_ascending(row):
    """Whether a tuple ascends, without duplicates; its items must be of one kind that Python can sort."""
    for at in range(1, len(row)):
        if not row[at - 1] < row[at]:
            return False
    return True


def is_peg_set(many, thing):
    """Whether any value is a set of pegs of a wall of so many pegs."""
    if not isinstance(thing, tuple):
        return False
    for peg in thing:
        if not is_peg(many, peg):
            return False
    return is_ascending(thing)


def are_unlike_pegs(many, thing):
    """Whether any value is a tuple of unlike pegs of a wall of so many pegs."""
    if not isinstance(thing, tuple):
        return False
    for at, peg in enumerate(thing):
        if not is_peg(many, peg) or peg in thing[:at]:
            return False
    return True


def is_wound(many, thing):
    """Whether any value is a cord of a wall of so many pegs; neither slip numbers nor rails matter for this."""
    if not isinstance(thing, tuple):
        return False
    for pair in thing:
        if not (isinstance(pair, tuple) and len(pair) == 2):
            return False
        if not (is_peg(many, pair[0]) and is_integer(pair[1]) and pair[1] != 0):
            return False
    return True


def is_told(thing, word, length):
    """Whether any value is a tuple of just this length whose first item is the word."""
    return isinstance(thing, tuple) and len(thing) == length and is_same(thing[0], word)


def is_same(thing, right):
    """Whether any value is just the value right, which consists of tuples, integers, strings, bools and None."""
    if isinstance(right, tuple):
        if not (isinstance(thing, tuple) and len(thing) == len(right)):
            return False
        for one, other in zip(thing, right):
            if not is_same(one, other):
                return False
        return True
    # Python takes True for 1 and False for 0; a certificate must not.
    return isinstance(thing, bool) == isinstance(right, bool) and thing == right
