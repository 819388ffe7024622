"""Rules: which sets keep a picture, told by the least of them."""

from pulledpegs.cords import need_cords
from pulledpegs.errors import BadRule, BadSet
from pulledpegs.keeping import rule_on, table_on
from pulledpegs.kinds import is_ascending, is_peg_set, is_same
from pulledpegs.numbered import falling_by, is_within, least_by, least_within, number_of, set_of, table_by


def is_rule(many, thing):
    """Whether any value is a rule of so many pegs."""
    if not isinstance(thing, tuple):
        return False
    for pegs in thing:
        if not is_peg_set(many, pegs) or pegs == ():
            return False
    return is_ascending(thing) and not _has_nested(thing)


def _has_nested(rule):
    """Whether one of some unlike sets lies within another one."""
    numbers = [number_of(pegs) for pegs in rule]
    for at, number in enumerate(numbers):
        for other in numbers[:at]:
            if is_within(number, other) or is_within(other, number):
                return True
    return False


def need_rules(many, rules):
    """Raises BadRule with the first one of some values that is no rule of so many pegs."""
    for rule in rules:
        if not is_rule(many, rule):
            raise BadRule(rule)


def keeps(many, rule, kept):
    """Whether the rule keeps a set."""
    need_rules(many, (rule,))
    if not is_peg_set(many, kept):
        raise BadSet(kept)
    return least_within(rule, kept) != ()


def falling_sets(many, rule):
    """The ascending tuple of the greatest falling sets."""
    need_rules(many, (rule,))
    return falling_by(table_by(many, rule))


def least_pulls(many, rule):
    """The ascending tuple of the least pulls."""
    falling = falling_sets(many, rule)
    return tuple(sorted([_others(many, pegs) for pegs in falling]))


def _others(many, pegs):
    return tuple([peg for peg in range(1, many + 1) if peg not in pegs])


def either(many, one, other):
    """The rule that keeps what one of two rules keeps."""
    need_rules(many, (one, other))
    return least_by([first or second for first, second in zip(table_by(many, one), table_by(many, other))])


def both(many, one, other):
    """The rule that keeps what both of two rules keep."""
    need_rules(many, (one, other))
    return least_by([first and second for first, second in zip(table_by(many, one), table_by(many, other))])


def kept_by_size(many, rule):
    """The numbers of the sets that the rule keeps, by how many pegs they have, from 0 to all."""
    need_rules(many, (rule,))
    sizes = [0 for _ in range(many + 1)]
    for number, kept in enumerate(table_by(many, rule)):
        if kept:
            sizes[len(set_of(number))] += 1
    return tuple(sizes)


def rule_of(wall, cord):
    """The rule of the cord."""
    need_cords(wall, (cord,))
    return rule_on(wall, cord)


def judge_rule(wall, cord):
    """The certificate ("rule", least, falling) for a cord."""
    need_cords(wall, (cord,))
    table = table_on(wall, cord)
    return ("rule", least_by(table), falling_by(table))


def rule_holds(wall, cord, thing):
    """Whether any value is the certificate for a cord."""
    return is_same(thing, judge_rule(wall, cord))
