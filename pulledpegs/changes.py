"""Changes of walls, and where they lead walls, cords and rules."""

from pulledpegs.cords import need_cords
from pulledpegs.errors import BadChange
from pulledpegs.kinds import is_integer, is_peg, is_told
from pulledpegs.rules import need_rules
from pulledpegs.walls import LEAST_SLIP, MOST_PEGS, MOST_SLIP, lacks_rail, need_right


def is_change(wall, thing):
    """Whether any value is a change of the wall."""
    need_right(wall)
    if is_told(thing, "double", 2):
        return _can_double(wall, thing[1])
    if is_told(thing, "wear", 3):
        return _can_wear(wall, thing[1], thing[2])
    if is_told(thing, "rail", 3):
        return _are_tied_pegs(wall, thing[1], thing[2]) and thing[1] < thing[2]
    if is_told(thing, "bring", 3):
        return _can_bring(wall, thing[1], thing[2])
    return is_told(thing, "carry", 3) and _can_carry(wall, thing[1], thing[2])


def _are_tied_pegs(wall, i, j):
    many = len(wall[0])
    return is_peg(many, i) and is_peg(many, j) and lacks_rail(wall, i, j)


def _can_double(wall, i):
    many = len(wall[0])
    return is_peg(many, i) and wall[0][i - 1] == 0 and many < MOST_PEGS


def _can_wear(wall, i, slip):
    if not (is_peg(len(wall[0]), i) and is_integer(slip) and LEAST_SLIP <= slip <= MOST_SLIP):
        return False
    worn = wall[0][i - 1]
    return worn == 0 or (slip < worn and worn % slip == 0)


def _can_bring(wall, i, j):
    if not (_are_tied_pegs(wall, i, j) and i < j and wall[0][i - 1] == wall[0][j - 1]):
        return False
    return not [peg for peg in _others(wall, i, j) if lacks_rail(wall, i, peg) != lacks_rail(wall, j, peg)]


def _can_carry(wall, i, j):
    if not _are_tied_pegs(wall, i, j):
        return False
    return not [peg for peg in _others(wall, i, j) if lacks_rail(wall, j, peg) and not lacks_rail(wall, i, peg)]


def _others(wall, i, j):
    return [peg for peg in range(1, len(wall[0]) + 1) if peg not in (i, j)]


def need_change(wall, change, words):
    """Raises BadWall, then BadChange for any value that is no change of the wall with one of the words."""
    if not is_change(wall, change) or change[0] not in words:
        raise BadChange(change)


def wall_behind(wall, change):
    """The wall to which the change leads."""
    if not is_change(wall, change):
        raise BadChange(change)
    word, i = change[0], change[1]
    slips, rails = wall
    if word == "rail":
        return (slips, tuple(sorted(rails + ((i, change[2]),))))
    if word == "wear":
        return (slips[:i - 1] + (change[2],) + slips[i:], rails)
    if word == "bring":
        left = [rail for rail in rails if change[2] not in rail]
        named = tuple([(name_behind(change, one), name_behind(change, other)) for one, other in left])
        return (slips[:change[2] - 1] + slips[change[2]:], named)
    if word == "double":
        new = len(slips) + 1
        beside = [(peg, new) for peg in range(1, new) if peg != i and not lacks_rail(wall, i, peg)]
        return (slips + (0,), tuple(sorted(list(rails) + beside)))
    return wall


def name_behind(change, peg):
    """The peg of the new wall by which a peg of the old one is called."""
    if change[0] != "bring" or peg < change[2]:
        return peg
    if peg == change[2]:
        return change[1]
    return peg - 1


def changed_cord(wall, change, cord):
    """The changed cord of a cord."""
    if not is_change(wall, change):
        raise BadChange(change)
    need_cords(wall, (cord,))
    return cord_behind(wall, change, cord)


def cord_behind(wall, change, cord):
    """The changed cord, for what is known to be a change of the wall and a cord of it."""
    led = []
    for peg, winds in cord:
        if peg == change[1] and change[0] == "double":
            led.extend(_doubled(peg, len(wall[0]) + 1, winds))
        elif peg == change[1] and change[0] == "carry":
            led.extend([(change[2], 1), (peg, winds), (change[2], -1)])
        else:
            led.append((name_behind(change, peg), winds))
    return tuple(led)


def _doubled(peg, new, winds):
    if winds > 0:
        return ((peg, 1), (new, 1)) * winds
    return ((new, -1), (peg, -1)) * -winds


def led_rule(wall, change, rule):
    """The rule of the changed cords of the cords with a rule."""
    need_change(wall, change, ("double", "carry"))
    need_rules(len(wall[0]), (rule,))
    if change[0] == "carry":
        return rule
    new = len(wall[0]) + 1
    # The new peg is above all others, so it stands at the end of its sets.
    doubled = [tuple([peg for peg in pegs if peg != change[1]]) + (new,) for pegs in rule if change[1] in pegs]
    return tuple(sorted(list(rule) + doubled))
