"""Cords, their slides, their forms, and which of them are alike."""

from pulledpegs.errors import BadCord, BadSlide
from pulledpegs.forms import form_on, length_on, turned_back
from pulledpegs.kinds import is_same, is_wound
from pulledpegs.slides import slide_done
from pulledpegs.walls import need_right


def is_cord(wall, thing):
    """Whether any value is a cord of the wall."""
    need_right(wall)
    return is_wound(len(wall[0]), thing)


def need_cords(wall, cords):
    """Raises BadWall, then BadCord with the first one of some values that is no cord of the wall."""
    need_right(wall)
    for cord in cords:
        if not is_wound(len(wall[0]), cord):
            raise BadCord(cord)


def slid(wall, cord, slide):
    """The cord behind a slide."""
    need_cords(wall, (cord,))
    done = slide_done(wall, cord, slide)
    if done is None:
        raise BadSlide(slide)
    return done


def form_of(wall, cord):
    """The form of the cord."""
    need_cords(wall, (cord,))
    return form_on(wall, cord)


def length_of(wall, cord):
    """The length of the cord."""
    return length_on(wall, form_of(wall, cord))


def back(wall, cord):
    """The cord back."""
    need_cords(wall, (cord,))
    return turned_back(cord)


def behind(wall, one, other):
    """The cord one, and the cord other behind it, pair by pair."""
    need_cords(wall, (one, other))
    return one + other


def swap(wall, one, other):
    """The swap of two cords, pair by pair."""
    need_cords(wall, (one, other))
    return one + other + turned_back(one) + turned_back(other)


def are_alike(wall, one, other):
    """Whether two cords are alike."""
    need_cords(wall, (one, other))
    return form_on(wall, one) == form_on(wall, other)


def judge_alike(wall, one, other):
    """The certificate ("form", form) or ("forms", one, other) for two cords."""
    need_cords(wall, (one, other))
    first, second = form_on(wall, one), form_on(wall, other)
    if first == second:
        return ("form", first)
    return ("forms", first, second)


def alike_holds(wall, one, other, thing):
    """Whether any value is the certificate for two cords."""
    return is_same(thing, judge_alike(wall, one, other))
