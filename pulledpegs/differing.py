"""Two cords with one rule, of which one keeps behind a change and the other one falls; for what is known to be right.

Both begin as nests of the least sets, one behind the other. Those of the least sets within the reach of the set in
question fall behind the change, each of them for itself, and all others fall as they lack a peg. That is the cord
that falls. In the one that keeps, a nest that keeps behind the change takes the place of one of them; if there is no
such nest, that of a greater set that hangs together behind the change stands behind all, where it alters no rule.
"""

from pulledpegs.changes import wall_behind
from pulledpegs.forms import turned_back
from pulledpegs.nests import nest_of, order_begun
from pulledpegs.numbered import least_within
from pulledpegs.walls import hangs_together, lacks_rail, parts_of


def cords_that_differ(wall, rule, change, reach):
    """The cord that keeps and the cord that falls, if there are some; the reach is that of the set in question."""
    within = least_within(rule, reach)
    nests = [_falling_nest(wall, change, pegs) if pegs in within else _plain_nest(wall, pegs) for pegs in rule]
    falls = _one_behind_the_other(nests)
    for at, pegs in enumerate(rule):
        if pegs in within:
            kept = _keeping_nest(wall, change, pegs)
            if kept is not None:
                return (_one_behind_the_other(nests[:at] + [kept] + nests[at + 1:]), falls)
    return (falls + _nest_behind_all(wall, change, within, reach), falls)


def _one_behind_the_other(cords):
    row = ()
    for cord in cords:
        row = row + cord
    return row


def _nest_by(order):
    return nest_of([((peg, 1),) for peg in order])


def _plain_nest(wall, pegs):
    return _nest_by(order_begun(wall, pegs[:1], pegs))


def _falling_nest(wall, change, pegs):
    """A cord with the rule of a nest of the set whose changed cord falls."""
    word, i, last = change
    if word == "wear":
        # So many winds slip off behind the change.
        order = order_begun(wall, pegs[:1], pegs)
        return nest_of([((peg, last if peg == i else 1),) for peg in order])
    if i in pegs and last in pegs:
        # Behind a rail between them, or as one peg, these two swap to ().
        return _nest_by(order_begun(wall, (i, last), pegs))
    return _falling_beside(wall, i, last, pegs)


def _falling_beside(wall, i, j, pegs):
    """As _falling_nest, for a set with just one of two pegs that are brought together."""
    if len(pegs) == 1:
        # For both pegs there are such sets, and their winds undo one another behind the change.
        return ((pegs[0], 1 if pegs[0] == i else -1),)
    peg, other = (i, j) if i in pegs else (j, i)
    # Behind the change the two pairs at the beginning undo one another, and all that is swapped with them.
    begun = ((peg, 1), (other, -1))
    order = order_begun(wall, (peg,), pegs)
    nest = nest_of([begun] + [((peg, 1),) for peg in order[1:]])
    # Without the peg itself the nest would keep on the other one; swapped with the peg it falls.
    return nest_of([((peg, 1),), nest])


def _keeping_nest(wall, change, pegs):
    """A nest of the set whose changed cord keeps, while those of the other sets fall; None if there is none."""
    word, i, last = change
    if word == "wear":
        return _plain_nest(wall, pegs)
    if word == "rail":
        led = wall_behind(wall, change)
        return _plain_nest(led, pegs) if hangs_together(led, pegs) else None
    if pegs == (i, last):
        return None
    if i in pegs and last in pegs:
        # What the last peg is swapped with has more pegs than the one to which both are brought.
        return _nest_by(order_begun(wall, (i,), [peg for peg in pegs if peg != last]) + (last,))
    if len(pegs) > 1:
        return _plain_nest(wall, pegs)
    # The winds of the two pegs go on with one another instead, and slip off only by twos.
    return None if wall[0][i - 1] == 2 else turned_back(_falling_beside(wall, i, last, pegs))


def _nest_behind_all(wall, change, within, reach):
    """A nest of a set with more pegs than a least set, whose changed cord keeps."""
    word, i, last = change
    if word == "rail":
        led = wall_behind(wall, change)
        kept = [part for part in parts_of(led, reach) if least_within(within, part) != ()]
        return _plain_nest(led, kept[0])
    tied = [peg for peg in reach if peg not in (i, last) and lacks_rail(wall, i, peg)]
    return _nest_by((i, tied[0], last))
