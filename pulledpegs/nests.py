"""Nests: cords that keep on all their pegs, and fall without any one of them."""

from pulledpegs.errors import BadOrder, BadSet
from pulledpegs.forms import turned_back
from pulledpegs.kinds import are_unlike_pegs
from pulledpegs.walls import hangs_together, lacks_rail, need_right


def nest(wall, order):
    """The nest of an order."""
    need_right(wall)
    if not _is_order(wall, order):
        raise BadOrder(order)
    return nest_of([((peg, 1),) for peg in order])


def _is_order(wall, thing):
    if not are_unlike_pegs(len(wall[0]), thing) or thing == ():
        return False
    for at in range(1, len(thing)):
        if not [ahead for ahead in thing[:at] if lacks_rail(wall, ahead, thing[at])]:
            return False
    return True


def nest_of(cords):
    """The first one of some cords, swapped with the next one, and what comes of it with the next one, and so on."""
    nested = cords[0]
    for cord in cords[1:]:
        nested = nested + cord + turned_back(nested) + turned_back(cord)
    return nested


def order_for(wall, pegs):
    """An order of all pegs of a set that hangs together."""
    if not hangs_together(wall, pegs):
        raise BadSet(pegs)
    return order_begun(wall, pegs[:1], pegs)


def order_begun(wall, begun, pegs):
    """An order that begins with another one, and goes on with pegs of the set as long as some are tied to it."""
    order = list(begun)
    at = 0
    while at < len(order):
        for peg in pegs:
            if peg not in order and lacks_rail(wall, order[at], peg):
                order.append(peg)
        at += 1
    return tuple(order)
