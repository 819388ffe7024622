import itertools
import random
import unittest

from pulledpegs.cords import are_alike, swap
from pulledpegs.errors import BadOrder, BadSet, BadWall
from pulledpegs.nests import nest, order_for
from pulledpegs.pulled import does_keep
from tests.sets import all_sets, joined, random_wall, walls_of, within


def is_order_by_hand(wall, pegs):
    return bool(pegs) and len(set(pegs)) == len(pegs) and all(
        any((min(peg, other), max(peg, other)) not in wall[1] for other in pegs[:at]) for at, peg in enumerate(pegs) if at)


class Nests(unittest.TestCase):
    def test_pair_by_pair(self):
        wall = ((0, 2, 0, 3), ((1, 3),))
        self.assertEqual(nest(wall, (4,)), ((4, 1),))
        self.assertEqual(nest(wall, (2, 4)), ((2, 1), (4, 1), (2, -1), (4, -1)))
        self.assertEqual(nest(wall, (1, 2, 3)),
                         ((1, 1), (2, 1), (1, -1), (2, -1), (3, 1), (2, 1), (1, 1), (2, -1), (1, -1), (3, -1)))
        for order in itertools.permutations((1, 2, 3, 4)):
            if is_order_by_hand(wall, order):
                due = ((order[0], 1),)
                for peg in order[1:]:
                    due = swap(wall, due, ((peg, 1),))
                self.assertEqual(nest(wall, order), due)

    def test_all_orders_of_small_walls(self):
        for wall in walls_of(3, (0, 2)):
            for length in range(4):
                for order in itertools.product(range(1, 4), repeat=length):
                    if is_order_by_hand(wall, order):
                        cord = nest(wall, order)
                        self.assertEqual(len(cord), 3 * 2 ** (length - 1) - 2)
                        for kept in all_sets(3):
                            self.assertIs(does_keep(wall, cord, kept), within(order, kept))
                    else:
                        with self.assertRaises(BadOrder) as caught:
                            nest(wall, order)
                        self.assertIs(caught.exception.thing, order)

    def test_what_is_no_order(self):
        wall = ((0, 0, 0), ((1, 2),))
        for order in ((), (1, 2), (1, 2, 3), (1, 1), (1, 3, 1), (0,), (4,), (-1,), (True,), (3, True), [1], (1, [3]), None, 1,
                      ((1,),), "1", (1, None), {1: 3}, (False,)):
            with self.assertRaises(BadOrder) as caught:
                nest(wall, order)
            self.assertIs(caught.exception.thing, order)
        with self.assertRaises(BadWall):
            nest(((1,), ()), ())

    def test_order_for_every_set(self):
        chance = random.Random(51)
        walls = list(walls_of(3, (0,))) + [random_wall(chance, many) for many in (1, 4, 6, 10) for _ in range(4)]
        for wall in walls:
            for pegs in all_sets(len(wall[0])):
                if joined(wall, pegs):
                    order = order_for(wall, pegs)
                    self.assertIs(type(order), tuple)
                    self.assertEqual(tuple(sorted(order)), pegs)
                    self.assertTrue(is_order_by_hand(wall, order))
                    if len(pegs) < 6:
                        self.assertIs(are_alike(wall, nest(wall, order), ()), False)
                else:
                    with self.assertRaises(BadSet) as caught:
                        order_for(wall, pegs)
                    self.assertIs(caught.exception.thing, pegs)
