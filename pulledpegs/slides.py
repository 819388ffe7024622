"""Slides done at cords, for what is known to be a wall and a cord of it."""

from pulledpegs.kinds import is_integer
from pulledpegs.walls import lacks_rail


def slide_done(wall, cord, thing):
    """The cord behind a slide, or None if any value is no slide that can be done."""
    if not (isinstance(thing, tuple) and len(thing) == 2 and is_integer(thing[1])):
        return None
    word, at = thing
    # Python counts positions below 0 from the end; a slide does not.
    if at < 0:
        return None
    if word == "turn":
        return _turned(wall, cord, at)
    if word == "join":
        return _joined(cord, at)
    if word == "past":
        return _passed(wall, cord, at)
    return None


def _turned(wall, cord, at):
    if at >= len(cord):
        return None
    peg, winds = cord[at]
    slip = wall[0][peg - 1]
    if slip == 0:
        return None
    return cord[:at] + _pair_left(peg, winds % slip) + cord[at + 1:]


def _joined(cord, at):
    if at + 1 >= len(cord) or cord[at][0] != cord[at + 1][0]:
        return None
    return cord[:at] + _pair_left(cord[at][0], cord[at][1] + cord[at + 1][1]) + cord[at + 2:]


def _passed(wall, cord, at):
    if at + 1 >= len(cord):
        return None
    one, other = cord[at], cord[at + 1]
    if one[0] == other[0] or lacks_rail(wall, one[0], other[0]):
        return None
    return cord[:at] + (other, one) + cord[at + 2:]


def _pair_left(peg, winds):
    """The cord of one pair, or () if no winds are left of it."""
    if winds == 0:
        return ()
    return ((peg, winds),)


def slides_down(wall, cord):
    """A row of slides to a cord with the fewest pairs, which is () if the cord is alike to ()."""
    slides = []
    # What is ahead of the next pair has the fewest pairs already: the pair joins one of them, or stands behind them.
    ahead = []
    for peg, winds in cord:
        winds = _turned_at(wall, peg, winds, len(ahead), slides)
        if winds != 0:
            _brought_in(wall, ahead, peg, winds, slides)
    return tuple(slides)


def _brought_in(wall, ahead, peg, winds, slides):
    place = _place_to_join(wall, ahead, peg)
    if place < 0:
        ahead.append((peg, winds))
        return
    for at in range(len(ahead) - 1, place, -1):
        slides.append(("past", at))
    slides.append(("join", place))
    winds = _turned_at(wall, peg, ahead[place][1] + winds, place, slides)
    if winds == 0:
        ahead.pop(place)
    else:
        ahead[place] = (peg, winds)


def _turned_at(wall, peg, winds, at, slides):
    """The winds of the pair at the position behind a turn, which is put among the slides if it changes them."""
    slip = wall[0][peg - 1]
    if slip == 0 or winds % slip == winds:
        return winds
    slides.append(("turn", at))
    return winds % slip


def _place_to_join(wall, ahead, peg):
    """The position of the pair to which a next pair of the peg can slide, -1 if there is none."""
    for at in range(len(ahead) - 1, -1, -1):
        if ahead[at][0] == peg:
            return at
        if lacks_rail(wall, ahead[at][0], peg):
            return -1
    return -1
