"""Orders of pulls: when a picture falls under a rule, by which peg, and who wins if two pull in turn."""

from math import factorial

from pulledpegs.errors import BadNumber, BadSet
from pulledpegs.kinds import is_integer, is_peg, is_told
from pulledpegs.numbered import number_of, set_of, table_by
from pulledpegs.rules import keeps, kept_by_size, least_pulls, need_rules


def fall_times(many, rule):
    """The numbers of orders in which the picture falls, by the numbers of pulls, from 0 to all."""
    # In so many orders the picture hangs when so many pegs are left: each set is left in some order of its pegs.
    hung = [sets * factorial(left) * factorial(many - left) for left, sets in enumerate(kept_by_size(many, rule))]
    times = [factorial(many) - hung[many]]
    for pulls in range(1, many + 1):
        times.append(hung[many - pulls + 1] - hung[many - pulls])
    return tuple(times)


def share_of(many, rule, peg):
    """The number of orders in which the pull of the peg lets the picture fall."""
    need_rules(many, (rule,))
    if not is_peg(many, peg):
        raise BadNumber(peg)
    table = table_by(many, rule)
    bit = 1 << (peg - 1)
    total = 0
    for number, kept in enumerate(table):
        if kept and number & bit == bit and not table[number ^ bit]:
            left = len(set_of(number)) - 1
            total += factorial(left) * factorial(many - left - 1)
    return total


def earliest(many, rule):
    """The number of pulls behind which the picture falls at the earliest, 0 for a rule without a least set."""
    return min([len(pegs) for pegs in least_pulls(many, rule)])


def latest(many, rule):
    """The number of pulls behind which the picture falls at the latest, 0 for a rule without a least set."""
    need_rules(many, (rule,))
    if rule == ():
        return 0
    return many + 1 - min([len(pegs) for pegs in rule])


def judge_turn(many, rule, kept):
    """A certificate ("win", peg) or ("lose",) for a rule and a set that it keeps."""
    _need_kept(many, rule, kept)
    pegs = _winning_pegs(many, rule, kept)
    if pegs == []:
        return ("lose",)
    return ("win", pegs[0])


def turn_holds(many, rule, kept, thing):
    """Whether any value is a certificate for a rule and a set that it keeps."""
    _need_kept(many, rule, kept)
    pegs = _winning_pegs(many, rule, kept)
    if is_told(thing, "win", 2):
        return is_integer(thing[1]) and thing[1] in pegs
    return is_told(thing, "lose", 1) and pegs == []


def _need_kept(many, rule, kept):
    """Raises BadRule, then BadSet for any value as kept that is no set, or one that the rule does not keep."""
    if not keeps(many, rule, kept):
        raise BadSet(kept)


def _winning_pegs(many, rule, kept):
    """The pegs of a set with whose pull the one whose turn it is wins."""
    table = table_by(many, rule)
    # For each number the pegs that win from its set; a set with a peg less has a lesser number.
    winning = []
    for number in range(number_of(kept) + 1):
        winning.append([peg for peg in set_of(number) if _is_lost(table, winning, number ^ (1 << (peg - 1)))])
    return winning[-1]


def _is_lost(table, winning, number):
    """Whether the set with the number is kept, and lost for the one whose turn it is."""
    return table[number] and winning[number] == []
