"""Rules of the pictures of a gallery by its wall pegs, on which others they hang, and galleries changed."""

from pulledpegs.cords import need_cords
from pulledpegs.errors import BadNumber
from pulledpegs.galleries import need_gallery, need_picture, wall_pegs
from pulledpegs.hangs import Hangs
from pulledpegs.kinds import is_integer
from pulledpegs.numbered import is_within, least_by, set_of


def wall_rule(gallery, picture):
    """The wall rule of a picture, None if it hangs without any wall peg."""
    need_picture(gallery, picture)
    table = _hangs_by(gallery, picture)
    if table[0]:
        return None
    return least_by(table)


def least_falls(gallery, picture):
    """The ascending tuple of the least sets of wall pegs whose pulling lets the picture fall in the end."""
    need_picture(gallery, picture)
    # Back to front the table tells of each set what hangs when it is pulled.
    return least_by([not hung for hung in reversed(_hangs_by(gallery, picture))])


def _hangs_by(gallery, picture):
    """Whether the picture hangs in the end, by numbers of sets: on the wall pegs of the set, whatever else is in it."""
    hangs = Hangs(gallery)
    known = {}
    table = []
    for number in range(1 << len(gallery[1])):
        left = number & hangs.lots[0]
        if left not in known:
            known[left] = picture in hangs.hanging(left, hangs.pictures)
        table.append(known[left])
    return table


def hangs_on(gallery, picture):
    """The ascending tuple of the other pictures on which the picture hangs."""
    need_picture(gallery, picture)
    hangs = Hangs(gallery)
    if picture not in hangs.hanging(hangs.lots[0], hangs.pictures):
        return ()
    others = [other for other in hangs.pictures if other != picture]
    return tuple([other for other in others if picture not in _hanging_without(hangs, other)])


def _hanging_without(hangs, gone):
    return hangs.hanging(hangs.lots[0], [picture for picture in hangs.pictures if picture != gone])


def safe_pictures(gallery, k):
    """The ascending tuple of the pictures that hang in the end whatever wall pegs are pulled, at most so many."""
    need_gallery(gallery)
    if not is_integer(k) or k < 0:
        raise BadNumber(k)
    hangs = Hangs(gallery)
    # With more wall pegs pulled no other pictures hang, so the greatest number of pulls is enough.
    many = min(k, len(wall_pegs(gallery)))
    safe = hangs.pictures
    for number in range(hangs.lots[0] + 1):
        if is_within(number, hangs.lots[0]) and len(set_of(number)) == many:
            hung = hangs.hanging(hangs.lots[0] ^ number, hangs.pictures)
            safe = tuple([picture for picture in safe if picture in hung])
    return safe


def hooked(gallery, picture, cord):
    """The gallery with the cord in the place of that of the picture."""
    need_picture(gallery, picture)
    wall, owners, cords = gallery
    need_cords(wall, (cord,))
    return (wall, owners, cords[:picture - 1] + (cord,) + cords[picture:])
