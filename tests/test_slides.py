import itertools
import unittest

from pulledpegs.cords import slid
from pulledpegs.errors import BadSlide
from tests.odd import NO_SLIDES
from tests.search import all_slides, cords_of

WALLS = [
    ((0, 0), ()), ((0, 0), ((1, 2),)), ((0, 3), ()), ((2, 3), ((1, 2),)),
]


class Slides(unittest.TestCase):
    def bad(self, wall, cord, slide):
        with self.assertRaises(BadSlide) as caught:
            slid(wall, cord, slide)
        self.assertIs(caught.exception.thing, slide)

    def test_each_word_at_each_position(self):
        for wall in WALLS:
            for cord in cords_of((1, 2), (-3, -1, 1, 3, 4), 3):
                can = dict(all_slides(wall, cord))
                for slide in itertools.product(("join", "turn", "past"), range(-2, len(cord) + 2)):
                    if slide in can:
                        self.assertEqual(slid(wall, cord, slide), can[slide])
                    else:
                        self.bad(wall, cord, slide)

    def test_a_longer_cord(self):
        wall = ((0, 5, 0, 30), ((1, 2), (1, 4), (3, 4)))
        cord = ((1, 1), (1, -1), (2, 7), (1, 2), (1, 3), (4, -31), (3, 1), (4, 30), (2, -10), (2, 10), (3, -1), (3, -1))
        can = dict(all_slides(wall, cord))
        self.assertEqual(len(can), 5 + 4 + 5)
        for slide in itertools.product(("join", "turn", "past"), range(-2, 15)):
            if slide in can:
                self.assertEqual(slid(wall, cord, slide), can[slide])
            else:
                self.bad(wall, cord, slide)

    def test_turned_winds(self):
        for slip in (2, 3, 30):
            for winds in (1, slip - 1, slip, slip + 1, -1, -slip, -slip - 1, 1 - slip, 10 ** 6, -(10 ** 6), 4 * slip):
                left = winds
                while left < 0:
                    left += slip
                while left >= slip:
                    left -= slip
                for cord, at in ((((1, winds),), 0), (((2, 1), (1, winds), (2, -1)), 1)):
                    middle = ((1, left),) if left else ()
                    self.assertEqual(slid(((slip, 0), ()), cord, ("turn", at)), cord[:at] + middle + cord[at + 1:])

    def test_join_adds_and_does_not_turn(self):
        wall = ((3,), ())
        self.assertEqual(slid(wall, ((1, 2), (1, 2)), ("join", 0)), ((1, 4),))
        self.assertEqual(slid(wall, ((1, 2), (1, 1)), ("join", 0)), ((1, 3),))
        self.assertEqual(slid(wall, ((1, 3), (1, -3)), ("join", 0)), ())
        self.assertEqual(slid(wall, ((1, 10 ** 6), (1, 10 ** 6)), ("join", 0)), ((1, 2 * 10 ** 6),))

    def test_turn_may_change_nothing(self):
        self.assertEqual(slid(((3,), ()), ((1, 2),), ("turn", 0)), ((1, 2),))

    def test_no_slides(self):
        wall = ((2, 2, 0, 0), ((1, 2),))
        cord = ((1, 1), (1, 1), (2, 2), (1, 3), (2, 1))
        for slide in NO_SLIDES:
            self.bad(wall, cord, slide)
            self.bad(wall, (), slide)

    def test_nothing_slides_at_no_pairs(self):
        for word in ("join", "turn", "past"):
            for at in (-1, 0, 1):
                self.bad(((2, 2), ((1, 2),)), (), (word, at))

    def test_the_last_pair(self):
        wall = ((2, 2), ((1, 2),))
        self.bad(wall, ((1, 1),), ("join", 0))
        self.bad(wall, ((1, 1),), ("past", 0))
        self.bad(wall, ((1, 1), (1, 1)), ("join", 1))
        self.bad(wall, ((1, 1), (2, 1)), ("past", 1))
        self.bad(wall, ((1, 1), (2, 1)), ("turn", 2))
        self.assertEqual(slid(wall, ((1, 1), (2, 2)), ("turn", 1)), ((1, 1),))
