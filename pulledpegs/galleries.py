"""Galleries: pictures with pegs in their frames, which of them hang in the end, and certificates for it."""

from pulledpegs.errors import BadGallery, BadPicture, BadSet
from pulledpegs.hangs import Hangs
from pulledpegs.kinds import are_unlike_pegs, is_integer, is_peg, is_peg_set, is_told, is_wound
from pulledpegs.numbered import number_of
from pulledpegs.walls import is_right

MOST_PICTURES = 8


def is_gallery(thing):
    """Whether any value is a gallery."""
    if not (isinstance(thing, tuple) and len(thing) == 3 and is_right(thing[0])):
        return False
    many = len(thing[0][0])
    return _are_cords(many, thing[2]) and _are_owners(many, len(thing[2]), thing[1])


def _are_cords(many, thing):
    if not (isinstance(thing, tuple) and 1 <= len(thing) <= MOST_PICTURES):
        return False
    return not [cord for cord in thing if not is_wound(many, cord)]


def _are_owners(many, pictures, thing):
    if not (isinstance(thing, tuple) and len(thing) == many):
        return False
    return not [owner for owner in thing if not (is_integer(owner) and 0 <= owner <= pictures)]


def need_gallery(gallery):
    """Raises BadGallery for any value that is no gallery."""
    if not is_gallery(gallery):
        raise BadGallery(gallery)


def need_picture(gallery, picture):
    """Raises BadGallery, then BadPicture for any value as picture that is no picture of the gallery."""
    need_gallery(gallery)
    if not is_peg(len(gallery[2]), picture):
        raise BadPicture(picture)


def wall_pegs(gallery):
    """The ascending tuple of the pegs in the wall."""
    need_gallery(gallery)
    return tuple([peg for peg, owner in enumerate(gallery[1], start=1) if owner == 0])


def hanging(gallery, pulled):
    """The ascending tuple of the pictures that hang in the end, when some wall pegs are pulled."""
    _need_pulled(gallery, pulled)
    hangs = Hangs(gallery)
    return hangs.hanging(_left(hangs, pulled), hangs.pictures)


def judge_picture(gallery, pulled, picture):
    """A certificate ("falls", order) or ("stays", pictures) for a gallery, wall pegs that are pulled, and a picture."""
    _need_pulled(gallery, pulled)
    need_picture(gallery, picture)
    hangs = Hangs(gallery)
    left = _left(hangs, pulled)
    order = hangs.falling(left, hangs.pictures)
    if picture in order:
        return ("falls", tuple(order[:order.index(picture) + 1]))
    return ("stays", hangs.hanging(left, hangs.pictures))


def picture_holds(gallery, pulled, picture, thing):
    """Whether any value is a certificate for a gallery, wall pegs that are pulled, and a picture."""
    _need_pulled(gallery, pulled)
    need_picture(gallery, picture)
    hangs = Hangs(gallery)
    if is_told(thing, "falls", 2):
        return _do_fall(hangs, _left(hangs, pulled), picture, thing[1])
    return is_told(thing, "stays", 2) and _do_stay(hangs, _left(hangs, pulled), picture, thing[1])


def _need_pulled(gallery, pulled):
    """Raises BadGallery, then BadSet for any value as pulled that is no ascending tuple of wall pegs."""
    right = wall_pegs(gallery)
    if not is_peg_set(len(gallery[1]), pulled) or [peg for peg in pulled if peg not in right]:
        raise BadSet(pulled)


def _left(hangs, pulled):
    """The number of the wall pegs that are not pulled."""
    return hangs.lots[0] ^ number_of(pulled)


def _do_fall(hangs, left, picture, order):
    """Whether any value is an order in which pictures fall one after the other, the picture as the last one."""
    if not are_unlike_pegs(len(hangs.pictures), order) or order == () or order[-1] != picture:
        return False
    number = hangs.number_with(left, hangs.pictures)
    for falling in order:
        if not hangs.does_fall(falling, number):
            return False
        number = number ^ hangs.lots[falling]
    return True


def _do_stay(hangs, left, picture, pictures):
    """Whether any value is an ascending tuple of pictures, the picture among them, that hold one another."""
    if not is_peg_set(len(hangs.pictures), pictures) or picture not in pictures:
        return False
    number = hangs.number_with(left, pictures)
    return not [staying for staying in pictures if hangs.does_fall(staying, number)]
