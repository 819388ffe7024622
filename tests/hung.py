"""Galleries searched through by the document's words, and galleries drawn at random."""

import itertools

from pulledpegs.pulled import does_keep
from tests.sets import random_wall, subsets
from tests.test_pulled import random_cord


def pictures_of(gallery):
    return tuple(range(1, len(gallery[2]) + 1))


def in_wall(gallery):
    return tuple(peg for peg, owner in enumerate(gallery[1], start=1) if owner == 0)


def pegs_with(gallery, pulled, pictures):
    """The wall pegs that are not pulled, and the pegs in the frames of some pictures."""
    return tuple(peg for peg, owner in enumerate(gallery[1], start=1) if peg not in pulled and (owner == 0 or owner in pictures))


def falls_on(gallery, picture, pegs):
    return not does_keep(gallery[0], gallery[2][picture - 1], pegs)


def ends(gallery, pulled, first=None):
    """All sets of pictures that hang in the end, over all orders in which pictures may fall."""
    to_do = [pictures_of(gallery) if first is None else first]
    seen, found = set(to_do), set()
    while to_do:
        hung = to_do.pop()
        pegs = pegs_with(gallery, pulled, hung)
        next_ones = [tuple(other for other in hung if other != picture) for picture in hung if falls_on(gallery, picture, pegs)]
        if not next_ones:
            found.add(hung)
        for other in next_ones:
            if other not in seen:
                seen.add(other)
                to_do.append(other)
    return found


def end_of(gallery, pulled, first=None):
    (end,) = ends(gallery, pulled, first)
    return end


def right_certificates(gallery, pulled, picture):
    """All right certificates for a picture, by looking at all orders and all sets of pictures."""
    pictures = pictures_of(gallery)
    found = []
    for many in range(1, len(pictures) + 1):
        for order in itertools.permutations(pictures, many):
            steps = [[other for other in pictures if other not in order[:at]] for at in range(many)]
            if order[-1] == picture and all(falls_on(gallery, order[at], pegs_with(gallery, pulled, steps[at])) for at in range(many)):
                found.append(("falls", order))
    for staying in subsets(pictures):
        if picture in staying and not any(falls_on(gallery, other, pegs_with(gallery, pulled, staying)) for other in staying):
            found.append(("stays", staying))
    return found


def all_certificates(many):
    """All tuples that look like certificates, for so many pictures, and some that have no pictures or other ones."""
    for length in range(4):
        for row in itertools.product(range(many + 2), repeat=length):
            yield from (("falls", row), ("stays", row))


def random_gallery(chance, pegs, pictures, pairs=6):
    wall = random_wall(chance, pegs, (0, 0, 2, 3), chance.choice((0, 0.3)))
    owners = tuple(chance.choice((0, chance.randint(0, pictures))) for _ in range(pegs))
    cords = []
    for _ in range(pictures):
        half = random_cord(chance, pegs, pairs // 2, (-1, 1))
        turned = tuple((peg, -winds) for peg, winds in chance.sample(half, len(half)))
        cords.append(chance.choice((half + turned, half, random_cord(chance, pegs, pairs, (-1, 1, 2)))))
    return (wall, owners, tuple(cords))


SWAP = ((1, 1), (2, 1), (1, -1), (2, -1))
FREE = ((0, 0, 0, 0), ())

GALLERIES = [
    # All in the wall; no peg in the wall; each hangs on itself; two hold one another; a ring of three.
    (FREE, (0, 0, 0, 0), (SWAP, ((3, 1),), ((1, 1), (4, 2)))),
    (FREE, (1, 1, 2, 2), (SWAP, ((3, 1), (4, 1)))),
    (FREE, (1, 2, 3, 0), (((1, 1),), ((2, 1), (4, 1), (2, -1), (4, -1)), ((4, 1),))),
    (FREE, (2, 1, 0, 0), (((1, 1), (3, 1)), ((2, 1),))),
    (FREE, (2, 3, 1, 0), (((1, 1),), ((2, 1),), ((3, 1), (4, 1), (3, -1), (4, -1)))),
    # One below the other; one that never hangs; one whose own peg is not enough.
    (FREE, (0, 1, 2, 3), (((1, 1),), ((2, 1),), ((3, 1),), ((4, 1),))),
    (FREE, (0, 0, 1, 2), ((), ((3, 1),), SWAP, ((4, 3), (1, 1), (4, -3), (1, -1)))),
    (((2, 3, 0, 0), ((1, 2), (1, 3))), (1, 0, 0, 2), (((1, 2), (2, 1)), ((1, 1), (4, 1)), ((1, 1), (3, 1), (1, -1), (3, -1)))),
    (((0,), ()), (1,), (((1, 1),),)),
    (((2,), ()), (0,), (((1, 2),), ((1, 1),), ((1, 3),))),
]
