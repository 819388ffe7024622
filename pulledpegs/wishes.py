"""Wishes for a rule or for a table: which of them have a cord."""

from pulledpegs.errors import BadTable, NotOnWall
from pulledpegs.keeping import has_rule
from pulledpegs.kinds import is_peg_set, is_told, is_wound
from pulledpegs.nests import nest, order_for
from pulledpegs.numbered import breach_in, holds_one, is_within, least_by, number_of, set_of, table_by
from pulledpegs.rules import both, need_rules
from pulledpegs.walls import hangs_together, lacks_rail, need_right, parts_of


def has_cord(wall, rule):
    """Whether the rule is that of some cord of the wall."""
    _need_wish(wall, rule)
    return _parted_in(wall, rule) is None


def judge_wish(wall, rule):
    """A certificate ("cord", cord) or ("parted", pegs, lot) for a rule and a wall."""
    _need_wish(wall, rule)
    return _judged(wall, rule)


def wish_holds(wall, rule, thing):
    """Whether any value is a certificate for a rule and a wall."""
    _need_wish(wall, rule)
    return _does_answer(wall, rule, thing)


def cord_for(wall, rule):
    """A cord with the rule."""
    need_cord_for(wall, rule)
    return _nests_of(wall, rule)


def need_cord_for(wall, rule):
    """Raises BadWall, then BadRule, then NotOnWall if the rule has no cord."""
    _need_wish(wall, rule)
    parted = _parted_in(wall, rule)
    if parted is not None:
        raise NotOnWall(parted)


def fewest_pairs(wall, rule):
    """The least number of pairs that a cord with the rule may have: one for a peg alone, two for each other one."""
    _need_wish(wall, rule)
    pairs = {}
    for pegs in rule:
        for peg in pegs:
            pairs[peg] = min(len(pegs), 2)
    return sum(pairs.values())


def _need_wish(wall, rule):
    """Raises BadWall, then BadRule."""
    need_right(wall)
    need_rules(len(wall[0]), (rule,))


def _parted_in(wall, rule):
    """A certificate "parted" for the rule, None if each least set hangs together."""
    for pegs in rule:
        parts = parts_of(wall, pegs)
        if len(parts) > 1:
            return ("parted", pegs, parts[0])
    return None


def _nests_of(wall, rule):
    """The nests of all least sets, one behind the other: on a least set all other nests lack a peg."""
    cord = ()
    for pegs in rule:
        cord = cord + nest(wall, order_for(wall, pegs))
    return cord


def _judged(wall, rule):
    parted = _parted_in(wall, rule)
    if parted is not None:
        return parted
    return ("cord", _nests_of(wall, rule))


def _does_answer(wall, rule, thing):
    """Whether any value is a certificate for what is known to be a wall and a rule."""
    if is_told(thing, "cord", 2):
        return is_wound(len(wall[0]), thing[1]) and has_rule(wall, thing[1], rule)
    return is_told(thing, "parted", 3) and _do_part(wall, rule, thing[1], thing[2])


def _do_part(wall, rule, pegs, lot):
    """Whether any values are a least set of the rule, and a lot of its pegs that rails part from its other pegs."""
    many = len(wall[0])
    if not (is_peg_set(many, pegs) and pegs in rule and is_peg_set(many, lot)):
        return False
    others = [peg for peg in pegs if peg not in lot]
    if lot == () or others == [] or len(lot) + len(others) > len(pegs):
        return False
    return not [peg for peg in lot if [other for other in others if lacks_rail(wall, peg, other)]]


def judge_table(wall, table):
    """A certificate ("bare",), ("more", one, other), ("cord", cord) or ("parted", pegs, lot) for a table and a wall."""
    _need_table(wall, table)
    if table[0]:
        return ("bare",)
    breach = breach_in(table)
    if breach is not None:
        return ("more", set_of(breach[0]), set_of(breach[1]))
    return _judged(wall, least_by(table))


def table_holds(wall, table, thing):
    """Whether any value is a certificate for a table and a wall."""
    _need_table(wall, table)
    if is_told(thing, "bare", 1):
        return table[0]
    if is_told(thing, "more", 3):
        return _is_breach(len(wall[0]), table, thing[1], thing[2])
    return not table[0] and breach_in(table) is None and _does_answer(wall, least_by(table), thing)


def _need_table(wall, table):
    """Raises BadWall, then BadTable."""
    need_right(wall)
    if not _is_table(len(wall[0]), table):
        raise BadTable(table)


def _is_table(many, thing):
    if not (isinstance(thing, tuple) and len(thing) == 1 << many):
        return False
    return not [kept for kept in thing if not isinstance(kept, bool)]


def _is_breach(many, table, one, other):
    """Whether any values are a set that is kept, and one that is not although the first one lies within it."""
    if not (is_peg_set(many, one) and is_peg_set(many, other)):
        return False
    first, second = number_of(one), number_of(other)
    return is_within(first, second) and table[first] and not table[second]


def table_of(many, rule):
    """The table of a rule of so many pegs."""
    need_rules(many, (rule,))
    return tuple(table_by(many, rule))


def judge_both(wall, one, other):
    """A certificate ("cord", cord) or ("parted", pegs, lot) for the rule both of two rules of cords."""
    need_right(wall)
    need_rules(len(wall[0]), (one, other))
    need_cord_for(wall, one)
    need_cord_for(wall, other)
    return _judged(wall, both(len(wall[0]), one, other))


def many_rules(wall):
    """How many rules of the wall are those of cords."""
    need_right(wall)
    return len(_rules_on(wall))


def all_rules(wall):
    """The ascending tuple of the rules of the wall that are those of cords."""
    need_right(wall)
    return tuple(sorted([tuple(sorted([set_of(number) for number in rule])) for rule in _rules_on(wall)]))


def _rules_on(wall):
    """All tuples of numbers of sets that hang together, none of which lies within another one."""
    rules = [()]
    for number in range(1 << len(wall[0])):
        # A set has a greater number than all sets within it, so it lies within none of those ahead of it.
        if hangs_together(wall, set_of(number)):
            rules = rules + [rule + (number,) for rule in rules if not holds_one(rule, number)]
    return rules
