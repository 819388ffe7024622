"""Reports on sets of pegs: whether they quarrel, and on which sets all rules that fit them agree."""

from pulledpegs.errors import BadReports, Quarrel
from pulledpegs.kinds import is_ascending, is_peg_set, is_told
from pulledpegs.numbered import is_within, least_by, least_within, number_of, set_of, table_by
from pulledpegs.rules import is_rule
from pulledpegs.walls import need_right, need_set, parts_of
from pulledpegs.wishes import all_rules, has_cord


def are_reports(wall, thing):
    """Whether any value is reports of the wall."""
    need_right(wall)
    if not isinstance(thing, tuple):
        return False
    for seen in thing:
        if not (isinstance(seen, tuple) and len(seen) == 2 and isinstance(seen[1], bool)):
            return False
        if not is_peg_set(len(wall[0]), seen[0]):
            return False
    return is_ascending(thing)


def judge_reports(wall, reports):
    """A certificate ("rule", rule) or ("quarrel", pegs, falls) for reports."""
    _need_reports(wall, reports)
    quarrel = _quarrel_in(wall, reports)
    if quarrel is not None:
        return quarrel
    return ("rule", _rule_of_sets(wall, _parts_beside(wall, reports, ())))


def reports_hold(wall, reports, thing):
    """Whether any value is a certificate for reports."""
    _need_reports(wall, reports)
    if is_told(thing, "rule", 2):
        return _is_fitting(wall, reports, thing[1])
    if not (is_told(thing, "quarrel", 3) and _is_seen(wall, reports, thing[1], True)):
        return False
    return _do_spend(wall, reports, thing[1], thing[2])


def many_fitting(wall, reports):
    """How many rules fit the reports."""
    _need_reports(wall, reports)
    return len([rule for rule in all_rules(wall) if _does_fit(reports, rule)])


def judge_sure(wall, reports, pegs):
    """A certificate ("keeps", pegs), ("falls", falls) or ("open", one, other) for reports and a set."""
    _need_sure(wall, reports, pegs)
    return _judged(wall, reports, pegs)


def sure_holds(wall, reports, pegs, thing):
    """Whether any value is a certificate for reports and a set."""
    _need_sure(wall, reports, pegs)
    if is_told(thing, "keeps", 2):
        return _is_seen(wall, reports, thing[1], True) and _does_keep_surely(wall, reports, thing[1], pegs)
    if is_told(thing, "falls", 2):
        return _do_spend(wall, reports, pegs, thing[1])
    return is_told(thing, "open", 3) and _do_differ(wall, reports, pegs, thing[1], thing[2])


def state_of(wall, reports, pegs):
    """The word of the certificates for reports and a set."""
    _need_sure(wall, reports, pegs)
    return _judged(wall, reports, pegs)[0]


def open_sets(wall, reports):
    """The ascending tuple of the sets on which not all rules that fit agree."""
    _need_fitting(wall, reports)
    sets = sorted([set_of(number) for number in range(1 << len(wall[0]))])
    return tuple([pegs for pegs in sets if _judged(wall, reports, pegs)[0] == "open"])


def settled_rule(wall, reports):
    """The one rule that fits the reports, None if several do."""
    if open_sets(wall, reports) != ():
        return None
    return judge_reports(wall, reports)[1]


def _need_reports(wall, reports):
    """Raises BadWall, then BadReports."""
    if not are_reports(wall, reports):
        raise BadReports(reports)


def _need_fitting(wall, reports):
    """Raises BadWall, then BadReports, then Quarrel."""
    _need_reports(wall, reports)
    quarrel = _quarrel_in(wall, reports)
    if quarrel is not None:
        raise Quarrel(quarrel)


def _need_sure(wall, reports, pegs):
    """Raises BadWall, then BadReports, then Quarrel, then BadSet."""
    _need_fitting(wall, reports)
    need_set(wall, pegs)


def _sets_seen(reports, was_kept):
    """The sets that were seen to keep, or those that were seen to fall."""
    return [pegs for pegs, kept in reports if kept == was_kept]


def _is_seen(wall, reports, thing, was_kept):
    """Whether any value is a set that was seen so."""
    return is_peg_set(len(wall[0]), thing) and (thing, was_kept) in reports


def _is_set_within(one, other):
    return is_within(number_of(one), number_of(other))


def _fall_about(reports, part):
    """A set that was not kept, within which the part lies, None if the part is not spent."""
    for pegs in _sets_seen(reports, False):
        if _is_set_within(part, pegs):
            return pegs
    return None


def _falls_about(wall, reports, pegs):
    """For each part of a set a set that was not kept, within which it lies; None if some part is not spent."""
    falls = [_fall_about(reports, part) for part in parts_of(wall, pegs)]
    if None in falls:
        return None
    return tuple(falls)


def _unspent_parts(wall, reports, pegs):
    return [part for part in parts_of(wall, pegs) if _fall_about(reports, part) is None]


def _quarrel_in(wall, reports):
    """A certificate "quarrel" for the reports, None if they do not quarrel."""
    for pegs in _sets_seen(reports, True):
        falls = _falls_about(wall, reports, pegs)
        if falls is not None:
            return ("quarrel", pegs, falls)
    return None


def _parts_beside(wall, reports, pegs):
    """Of each set that was kept a part that is neither spent nor within the set; there must be such parts."""
    parts = []
    for kept in _sets_seen(reports, True):
        beside = [part for part in _unspent_parts(wall, reports, kept) if not _is_set_within(part, pegs)]
        parts.append(beside[0])
    return parts


def _rule_of_sets(wall, sets):
    """The rule that keeps just those sets within which one of some sets lies."""
    return least_by(table_by(len(wall[0]), sets))


def _judged(wall, reports, pegs):
    for kept in _sets_seen(reports, True):
        if _does_keep_surely(wall, reports, kept, pegs):
            return ("keeps", kept)
    falls = _falls_about(wall, reports, pegs)
    if falls is not None:
        return ("falls", falls)
    keeping = _parts_beside(wall, reports, ()) + _unspent_parts(wall, reports, pegs)
    return ("open", _rule_of_sets(wall, keeping), _rule_of_sets(wall, _parts_beside(wall, reports, pegs)))


def _does_keep_surely(wall, reports, kept, pegs):
    """Whether all parts of a set that was kept lie within the other set, but for those that are spent."""
    return not [part for part in _unspent_parts(wall, reports, kept) if not _is_set_within(part, pegs)]


def _do_spend(wall, reports, pegs, thing):
    """Whether any value is a tuple with a set that was not kept for each part of a set, within which the part lies."""
    parts = parts_of(wall, pegs)
    if not (isinstance(thing, tuple) and len(thing) == len(parts)):
        return False
    for part, fall in zip(parts, thing):
        if not (_is_seen(wall, reports, fall, False) and _is_set_within(part, fall)):
            return False
    return True


def _does_fit(reports, rule):
    """Whether a rule keeps what was kept, and nothing else that was seen."""
    return not [pegs for pegs, kept in reports if (least_within(rule, pegs) != ()) != kept]


def _is_fitting(wall, reports, thing):
    """Whether any value is a rule that fits."""
    return is_rule(len(wall[0]), thing) and has_cord(wall, thing) and _does_fit(reports, thing)


def _do_differ(wall, reports, pegs, one, other):
    """Whether two values are rules that fit, the first of which keeps the set, and the second of which does not."""
    if not (_is_fitting(wall, reports, one) and _is_fitting(wall, reports, other)):
        return False
    return least_within(one, pegs) != () and least_within(other, pegs) == ()
