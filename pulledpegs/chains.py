"""Told cords on changed walls: their rules, what is lost, and rows of changes."""

from pulledpegs.changes import changed_cord, cord_behind, name_behind, wall_behind
from pulledpegs.cords import need_cords
from pulledpegs.errors import BadChange
from pulledpegs.keeping import keeps_on, rule_on
from pulledpegs.walls import need_right


def walls_led(wall, changes):
    """The tuple of all walls, the first one and those behind each change."""
    need_right(wall)
    if not isinstance(changes, tuple):
        raise BadChange(changes)
    walls = [wall]
    for change in changes:
        walls.append(wall_behind(walls[-1], change))
    return tuple(walls)


def cord_led(wall, changes, cord):
    """The cord behind all changes."""
    walls = walls_led(wall, changes)
    need_cords(wall, (cord,))
    for met, change in zip(walls, changes):
        cord = cord_behind(met, change, cord)
    return cord


def new_rule(wall, change, cord):
    """The rule of the changed cord on the new wall."""
    changed = changed_cord(wall, change, cord)
    return rule_on(wall_behind(wall, change), changed)


def lost_sets(wall, change, cord):
    """The ascending tuple of the least sets of the rule of the cord that are lost by the change."""
    changed = changed_cord(wall, change, cord)
    led = wall_behind(wall, change)
    return tuple([pegs for pegs in rule_on(wall, cord) if not keeps_on(led, changed, _called(change, pegs))])


def is_firm(wall, change, cord):
    """Whether no least set of the rule of the cord is lost by the change."""
    return lost_sets(wall, change, cord) == ()


def _called(change, pegs):
    """The pegs of the new wall by which those of a set are called; one peg may stand there twice."""
    return [name_behind(change, peg) for peg in pegs]
