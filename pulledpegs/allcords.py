"""What a change does to all cords of a rule: whether a set surely keeps them, surely lets them fall, or neither."""

from pulledpegs.changes import cord_behind, name_behind, need_change, wall_behind
from pulledpegs.differing import cords_that_differ
from pulledpegs.keeping import has_rule, keeps_on
from pulledpegs.kinds import is_same, is_told, is_wound
from pulledpegs.numbered import least_within
from pulledpegs.walls import need_set, parts_of
from pulledpegs.wishes import need_cord_for


def judge_change(wall, rule, change, kept):
    """A certificate ("sure", pegs), ("never", parts) or ("either", one, other) for a rule, a change and a set."""
    _need(wall, rule, change, kept)
    return _judged(wall, rule, change, _reach(wall, change, kept))


def change_holds(wall, rule, change, kept, thing):
    """Whether any value is a certificate for a rule, a change and a set."""
    _need(wall, rule, change, kept)
    if is_told(thing, "either", 3):
        return _do_differ(wall, rule, change, kept, thing[1:])
    reach = _reach(wall, change, kept)
    if is_told(thing, "sure", 2):
        return [pegs for pegs in _sure_sets(rule, change, reach) if is_same(thing[1], pegs)] != []
    parts = _parts_without(wall, rule, change, reach)
    return parts is not None and is_same(thing, ("never", parts))


def after_change(wall, rule, change, kept):
    """The word of the certificates for a rule, a change and a set."""
    _need(wall, rule, change, kept)
    return _judged(wall, rule, change, _reach(wall, change, kept))[0]


def _need(wall, rule, change, kept):
    """Raises BadWall, then BadRule, then NotOnWall, then BadChange, then BadSet."""
    need_cord_for(wall, rule)
    need_change(wall, change, ("rail", "wear", "bring"))
    need_set(wall_behind(wall, change), kept)


def _reach(wall, change, kept):
    """The set of all pegs that are called by a peg of the set behind the change."""
    return tuple([peg for peg in range(1, len(wall[0]) + 1) if name_behind(change, peg) in kept])


def _judged(wall, rule, change, reach):
    sure = _sure_sets(rule, change, reach)
    if sure != []:
        return ("sure", sure[0])
    parts = _parts_without(wall, rule, change, reach)
    if parts is not None:
        return ("never", parts)
    one, other = cords_that_differ(wall, rule, change, reach)
    return ("either", one, other)


def _sure_sets(rule, change, reach):
    """The least sets within the reach that the change does not touch."""
    return [pegs for pegs in least_within(rule, reach) if _is_spared(rule, change, pegs)]


def _is_spared(rule, change, pegs):
    word, i, last = change
    if word == "wear":
        return i not in pegs
    if word == "rail":
        return i not in pegs or last not in pegs
    if pegs == (i,):
        return (last,) not in rule
    if pegs == (last,):
        return (i,) not in rule
    return i not in pegs and last not in pegs


def _parts_without(wall, rule, change, reach):
    """The parts of the reach if none of them keeps behind the change, otherwise None."""
    web = wall if change[0] == "bring" else wall_behind(wall, change)
    parts = parts_of(web, reach)
    for part in parts:
        if least_within(rule, part) != () and not _is_undone(wall, rule, change, part):
            return None
    return parts


def _is_undone(wall, rule, change, part):
    """Whether the part is two pegs alone that are brought together and let each cord of the rule fall."""
    word, i, last = change
    if word != "bring" or part != (i, last):
        return False
    return part in rule or ((i,) in rule and (last,) in rule and wall[0][i - 1] == 2)


def _do_differ(wall, rule, change, kept, cords):
    """Whether two values are cords with the rule, the first of which keeps behind the change, and the other falls."""
    for cord in cords:
        if not (is_wound(len(wall[0]), cord) and has_rule(wall, cord, rule)):
            return False
    led = wall_behind(wall, change)
    one, other = [keeps_on(led, cord_behind(wall, change, cord), kept) for cord in cords]
    return one and not other
