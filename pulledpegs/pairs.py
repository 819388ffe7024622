"""Two cords of one wall: which of them lasts as long as the other one, and cords that last for both or with both."""

from pulledpegs.cords import need_cords
from pulledpegs.keeping import keeps_on, rule_on, set_lost, table_on
from pulledpegs.kinds import is_peg_set, is_same, is_told
from pulledpegs.rules import both, either
from pulledpegs.wishes import cord_for

# What is told of two cords by which of them still hang when one has fallen, or both have.
WAYS = (("both", (False, False)), ("first", (False, True)), ("second", (True, False)))


def lasts(wall, one, other):
    """Whether each set that keeps the cord other keeps the cord one, too."""
    need_cords(wall, (one, other))
    return set_lost(wall, one, other) is None


def judge_lasts(wall, one, other):
    """A certificate ("lasts",) or ("set", kept) for two cords."""
    need_cords(wall, (one, other))
    lost = set_lost(wall, one, other)
    if lost is None:
        return ("lasts",)
    return ("set", lost)


def lasts_holds(wall, one, other, thing):
    """Whether any value is a certificate for two cords."""
    need_cords(wall, (one, other))
    if is_told(thing, "set", 2):
        return is_peg_set(len(wall[0]), thing[1]) and _is_lost(wall, one, other, thing[1])
    return is_same(thing, ("lasts",)) and set_lost(wall, one, other) is None


def _is_lost(wall, one, other, kept):
    return keeps_on(wall, other, kept) and not keeps_on(wall, one, kept)


def fall_ways(wall, one, other):
    """The ascending tuple of the words that tell, for some order of all pegs, which of two cords falls first."""
    need_cords(wall, (one, other))
    first, second = table_on(wall, one), table_on(wall, other)
    met = [(first[number], second[number]) for number in _numbers_met(len(wall[0]), first, second)]
    return tuple([word for word, hanging in WAYS if hanging in met])


def _numbers_met(many, first, second):
    """The numbers of all pegs, and of the sets that can be left behind a pull ahead of which both cords hung."""
    # Both hang on all sets with more pegs than one on which both hang, so each such set can be left.
    hung = [number for number in range(1 << many) if first[number] and second[number]]
    behind = [number ^ (1 << at) for number in hung for at in range(many) if number & (1 << at) != 0]
    return [(1 << many) - 1] + behind


def lasting_for(wall, one, other):
    """A cord that keeps on just those sets that keep one of two cords."""
    need_cords(wall, (one, other))
    return cord_for(wall, either(len(wall[0]), rule_on(wall, one), rule_on(wall, other)))


def lasting_with(wall, one, other):
    """A cord that keeps on just those sets that keep both of two cords."""
    need_cords(wall, (one, other))
    return cord_for(wall, both(len(wall[0]), rule_on(wall, one), rule_on(wall, other)))
