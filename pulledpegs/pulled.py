"""Pegs pulled: what is left of a cord on a set, and whether the set keeps it."""

from pulledpegs.cords import need_cords
from pulledpegs.errors import BadOrder
from pulledpegs.forms import form_on
from pulledpegs.keeping import keeps_on, left_on
from pulledpegs.kinds import are_unlike_pegs, is_same, is_told
from pulledpegs.slides import slide_done, slides_down
from pulledpegs.walls import need_set


def cord_on(wall, cord, kept):
    """The cord on a set, pair by pair."""
    _need(wall, cord, kept)
    return left_on(cord, kept)


def does_keep(wall, cord, kept):
    """Whether the set keeps the cord."""
    _need(wall, cord, kept)
    return keeps_on(wall, cord, kept)


def judge_keep(wall, cord, kept):
    """A certificate ("slides", slides) or ("rest", form) for a cord and a set."""
    _need(wall, cord, kept)
    left = left_on(cord, kept)
    form = form_on(wall, left)
    if form == ():
        return ("slides", slides_down(wall, left))
    return ("rest", form)


def keep_holds(wall, cord, kept, thing):
    """Whether any value is a certificate for a cord and a set."""
    _need(wall, cord, kept)
    left = left_on(cord, kept)
    if is_told(thing, "slides", 2):
        return _do_lead_off(wall, left, thing[1])
    form = form_on(wall, left)
    return form != () and is_same(thing, ("rest", form))


def _do_lead_off(wall, cord, thing):
    """Whether any value is a row of slides that leads the cord to ()."""
    if not isinstance(thing, tuple):
        return False
    for slide in thing:
        cord = slide_done(wall, cord, slide)
        if cord is None:
            return False
    return cord == ()


def first_fall(wall, cord, pulls):
    """The number of pulls behind which the cord first falls, None if it does not fall."""
    need_cords(wall, (cord,))
    if not are_unlike_pegs(len(wall[0]), pulls):
        raise BadOrder(pulls)
    form = form_on(wall, cord)
    for many, peg in enumerate(pulls):
        if form == ():
            return many
        form = form_on(wall, tuple([pair for pair in form if pair[0] != peg]))
    if form == ():
        return len(pulls)
    return None


def _need(wall, cord, kept):
    """Raises BadWall, then BadCord, then BadSet."""
    need_cords(wall, (cord,))
    need_set(wall, kept)
