import itertools
import unittest

from pulledpegs.cords import are_alike, back, behind, is_cord, swap
from tests.odd import NO_CORDS
from tests.search import cords_of

WALL = ((0, 2, 0, 30), ((1, 3), (3, 4)))


class Cords(unittest.TestCase):
    def test_cords(self):
        for cord in ((), ((1, 1),), ((4, -1),), ((1, 1), (1, 1)), ((2, 2),), ((4, 30), (4, -60)), ((2, 0 - 10 ** 6),),
                     ((1, 10 ** 39),), ((1, 10 ** 6), (4, -(10 ** 6))) * 20, ((3, 1),) * 900):
            self.assertIs(is_cord(WALL, cord), True, cord)

    def test_no_cords(self):
        for thing in NO_CORDS:
            self.assertIs(is_cord(WALL, thing), False, thing)

    def test_pegs_and_winds(self):
        for many in (1, 2, 9, 10):
            for peg, winds in itertools.product(range(-2, 13), range(-3, 4)):
                due = 1 <= peg <= many and winds != 0
                self.assertIs(is_cord(((0,) * many, ()), ((peg, winds),)), due)
                self.assertIs(is_cord(((2,) * many, ()), ((1, 1), (peg, winds), (1, 1))), due)

    def test_back(self):
        self.assertEqual(back(WALL, ()), ())
        self.assertEqual(back(WALL, ((1, 2), (2, -5), (4, 31), (4, 1))), ((4, -1), (4, -31), (2, 5), (1, -2)))
        for cord in cords_of((1, 2, 4), (-2, 1), 3):
            self.assertEqual(back(WALL, back(WALL, cord)), cord)
            self.assertIs(are_alike(WALL, cord + back(WALL, cord), ()), True)

    def test_behind(self):
        one, other = ((1, 1), (2, 1)), ((2, -1), (1, 4))
        self.assertEqual(behind(WALL, one, other), ((1, 1), (2, 1), (2, -1), (1, 4)))
        self.assertEqual(behind(WALL, other, one), ((2, -1), (1, 4), (1, 1), (2, 1)))
        self.assertEqual(behind(WALL, one, ()), one)
        self.assertEqual(behind(WALL, (), one), one)

    def test_swap(self):
        self.assertEqual(swap(WALL, ((1, 1), (2, 3)), ((4, -1),)),
                         ((1, 1), (2, 3), (4, -1), (2, -3), (1, -1), (4, 1)))
        self.assertEqual(swap(WALL, ((4, -1),), ((1, 1), (2, 3))),
                         ((4, -1), (1, 1), (2, 3), (4, 1), (2, -3), (1, -1)))
        self.assertEqual(swap(WALL, (), ((1, 1),)), ((1, 1), (1, -1)))
        self.assertEqual(swap(WALL, ((1, 1),), ()), ((1, 1), (1, -1)))
        self.assertEqual(swap(WALL, (), ()), ())

    def test_likeness_goes_behind_and_ahead(self):
        for one, other in ((((1, 1), (3, 2)), ((3, 2), (1, 1))), (((2, 1),), ((2, -1),)), (((4, 30),), ())):
            self.assertIs(are_alike(WALL, one, other), True)
            for more in cords_of((1, 2, 4), (1, 3), 2):
                self.assertIs(are_alike(WALL, behind(WALL, one, more), behind(WALL, other, more)), True)
                self.assertIs(are_alike(WALL, behind(WALL, more, one), behind(WALL, more, other)), True)
            self.assertIs(are_alike(WALL, back(WALL, one), back(WALL, other)), True)
