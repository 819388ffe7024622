import itertools
import random
import unittest
from fractions import Fraction

from pulledpegs.cords import are_alike, swap
from pulledpegs.counts import count_of, counted_rows, depth_of, judge_row, row_holds
from pulledpegs.errors import BadCord, BadRow
from pulledpegs.pulled import does_keep
from tests.near import is_exactly, near
from tests.odd import NO_PLAIN_CORDS, NO_ROWS, ODD
from tests.search import cords_of, reached, turned_about
from tests.sets import all_sets
from tests.test_pulled import random_cord

PLAIN = ((0,) * 10, ())


def choices(winds, many):
    """winds (winds - 1) .. (winds - many + 1) / many!"""
    total = Fraction(1)
    for at in range(many):
        total = total * (winds - at) / (at + 1)
    return total


def summed_count(cord, row):
    """The sum over all ways to cut the row, of the products of the counts of the pieces."""
    if not cord:
        return int(row == ())
    peg, winds = cord[0]
    total = 0
    for many in range(len(row) + 1):
        if row[:many] == (peg,) * many:
            total += choices(winds, many) * summed_count(cord[1:], row[many:])
    return total


def all_rows(pegs, length):
    for many in range(length + 1):
        yield from itertools.product(pegs, repeat=many)


class Counts(unittest.TestCase):
    def check(self, cord, row):
        due = summed_count(cord, row)
        self.assertEqual(due, int(due))
        self.assertTrue(is_exactly(count_of(cord, row), int(due)), (cord, row))

    def test_one_pair(self):
        for winds in list(range(-21, 0)) + list(range(1, 22)):
            for many in range(9):
                self.check(((3, winds),), (3,) * many)
                self.check(((3, winds),), (3,) * many + (4,))
                self.check(((10, winds),), (10,) * many)
        for row, due in (((), 1), ((1,), -1), ((1, 1), 1), ((1, 1, 1), -1), ((2,), 0), ((1, 2), 0)):
            self.assertEqual(count_of(((1, -1),), row), due)

    def test_all_small_cords_and_rows(self):
        for cord in cords_of((1, 2), (-2, -1, 1, 2), 3):
            for row in all_rows((1, 2), 4):
                self.check(cord, row)

    def test_cords_and_rows_at_random(self):
        chance = random.Random(71)
        for pegs in ((1,), (1, 2), (4, 7, 10)):
            for _ in range(150):
                cord = tuple((chance.choice(pegs), chance.choice((-20, -3, -1, 1, 2, 5, 20))) for _ in range(chance.randint(0, 7)))
                self.check(cord, tuple(chance.choice(pegs) for _ in range(chance.randint(0, 8))))
                peg = chance.choice(pegs)
                self.check(cord, (peg,) * chance.randint(5, 8))

    def test_no_winds_no_rows(self):
        self.assertEqual([count_of((), row) for row in ((), (1,), (1, 1))], [1, 0, 0])

    def test_alike_cords_have_the_same_counts(self):
        chance = random.Random(72)
        for _ in range(20):
            cord = random_cord(chance, 3, 5)
            for other in list(reached(PLAIN, cord))[:20] + [cord + ((2, 3), (2, -3)), ((1, 1),) + ((1, -1),) + cord]:
                self.assertIs(are_alike(PLAIN, cord, other), True)
                for row in all_rows((1, 2, 3), 3):
                    self.assertEqual(count_of(cord, row), count_of(other, row))
                self.assertEqual(counted_rows(cord, 4), counted_rows(other, 4))
                self.assertEqual(depth_of(cord), depth_of(other))

    def test_counted_rows(self):
        chance = random.Random(73)
        for length in range(5):
            for pegs in ((1,), (2, 9), (1, 5, 10), (3, 4, 6, 8)):
                for pairs in (0, 1, 4, 16):
                    cord = tuple((chance.choice(pegs), chance.choice((-20, -1, 1, 2))) for _ in range(pairs))
                    due = [(row, count_of(cord, row)) for row in all_rows(pegs, length)]
                    due = tuple(sorted((row, count) for row, count in due if count != 0))
                    self.assertTrue(is_exactly(counted_rows(cord, length), due))
        self.assertEqual(counted_rows((), 4), (((), 1),))
        self.assertEqual(counted_rows(((1, 5),), 0), (((), 1),))
        self.assertEqual(counted_rows(((1, 2), (1, -2)), 4), (((), 1),))

    def test_what_is_no_row(self):
        for cord in ((), ((1, 1), (2, 1))):
            for row in NO_ROWS:
                with self.assertRaises(BadRow) as caught:
                    count_of(cord, row)
                self.assertIs(caught.exception.thing, row)
        with self.assertRaises(BadCord) as caught:
            count_of(((11, 1),), (0,))
        self.assertEqual(caught.exception.thing, ((11, 1),))

    def test_what_is_no_cord(self):
        for thing in NO_PLAIN_CORDS:
            for ask in (lambda: count_of(thing, None), lambda: counted_rows(thing, 2), lambda: depth_of(thing),
                        lambda: judge_row(thing), lambda: row_holds(thing, None)):
                with self.assertRaises(BadCord) as caught:
                    ask()
                self.assertIs(caught.exception.thing, thing)


class WhatCountsTell(unittest.TestCase):
    def test_a_set_keeps_exactly_if_a_row_of_it_counts(self):
        wall = ((0, 0, 0), ())
        for cord in cords_of((1, 2, 3), (-1, 1), 4):
            rows = [row for row, _ in counted_rows(cord, 4)]
            for kept in all_sets(3):
                due = any(row != () and set(row) <= set(kept) for row in rows)
                self.assertIs(does_keep(wall, cord, kept), due)

    def test_depth(self):
        chance = random.Random(74)
        for pegs, pairs, length in (((1, 2), 8, 6), ((2, 3, 7), 8, 5), ((1, 4, 5, 10), 6, 4)):
            for _ in range(12):
                cord = tuple((chance.choice(pegs), chance.choice((-1, 1))) for _ in range(pairs // 2))
                for made in (cord, swap(PLAIN, cord[:2], cord[2:]), swap(PLAIN, cord, cord[1:]), cord + turned_about(cord)):
                    rows = [row for row in all_rows(pegs, length) if row and count_of(made, row) != 0]
                    depth = depth_of(made)
                    if are_alike(PLAIN, made, ()):
                        self.assertIs(depth, None)
                        self.assertEqual(rows, [])
                    elif rows:
                        self.assertTrue(is_exactly(depth, min(len(row) for row in rows)))
                    else:
                        self.assertGreater(depth, length)

    def test_each_peg(self):
        for peg in range(1, 11):
            self.assertEqual(depth_of(((peg, 1), (11 - peg, 1))), 1)
            self.assertEqual(judge_row(((peg, -20), (11 - peg, 1))), ("row", (peg, 11 - peg), -20))
            self.assertEqual(counted_rows(((peg, -1),), 1), (((), 1), ((peg,), -1)))

    def test_depth_of_swaps_of_swaps(self):
        one, other = swap(PLAIN, ((1, 1),), ((2, 1),)), swap(PLAIN, ((3, 20),), ((4, -20),))
        self.assertEqual([depth_of(((1, 7),)), depth_of(one), depth_of(other)], [1, 2, 2])
        both = swap(PLAIN, one, other)
        self.assertEqual((len(both), depth_of(both)), (16, 4))
        self.assertEqual(depth_of(swap(PLAIN, one, ((3, 1),))), 3)
        self.assertEqual(depth_of(swap(PLAIN, one, ((1, 1),))), 3)
        self.assertEqual(depth_of(swap(PLAIN, one, swap(PLAIN, ((1, 2),), ((2, 1),)))), 5)
        self.assertEqual(depth_of(swap(PLAIN, one, swap(PLAIN, ((1, 1),), ((3, 1),)))), 4)
        for cord in (swap(PLAIN, one, one), (), one + turned_about(one), ((1, 1), (2, 0 + 1), (2, -1), (1, -1))):
            self.assertIs(depth_of(cord), None)
            self.assertIs(judge_row(cord), None)

    def test_certificates(self):
        chance = random.Random(75)
        for pairs in (1, 3, 6, 16):
            for pegs in ((1, 2), (1, 2, 3, 10)):
                for _ in range(25):
                    cord = tuple((chance.choice(pegs), chance.choice((-20, -1, 1, 3))) for _ in range(pairs))
                    told = judge_row(cord)
                    if are_alike(PLAIN, cord, ()):
                        self.assertIs(told, None)
                    else:
                        word, row, count = told
                        self.assertEqual(word, "row")
                        self.assertNotEqual(row, ())
                        self.assertNotEqual(count, 0)
                        self.assertEqual(summed_count(cord, row), count)
                        self.assertIs(row_holds(cord, told), True)

    def test_every_row_with_its_count_and_no_other(self):
        for cord in cords_of((1, 2), (-2, 1), 3):
            for row in all_rows((1, 2), 3):
                count = summed_count(cord, row)
                for told in range(-9, 10):
                    due = row != () and told != 0 and told == count
                    self.assertIs(row_holds(cord, ("row", row, told)), due, (cord, row, told))

    def test_rows_of_many_pegs(self):
        chance = random.Random(76)
        cord = ((1, -2), (2, 3), (1, 5), (3, -1), (2, 1), (1, -1))
        for length in (9, 12, 16, 20):
            for _ in range(40):
                row = tuple(sorted(chance.choice((1, 1, 2, 3)) for _ in range(length - 2))) + (2, 1)
                count = summed_count(cord, row)
                for told in (count, count + 1, -count, 0, 1):
                    self.assertIs(row_holds(cord, ("row", row, int(told))), told != 0 and told == count)
        self.assertIs(row_holds(((1, -1),), ("row", (1,) * 16, 1)), True)
        self.assertIs(row_holds(((1, -1),), ("row", (1,) * 15, -1)), True)
        self.assertIs(row_holds(((1, -1),), ("row", (1,) * 15, 1)), False)

    def test_next_to_right_certificates(self):
        cord = ((1, 1), (2, 1), (1, -1), (2, -1))
        for right in (("row", (1, 2), 1), ("row", (2, 1), -1), ("row", (1, 2, 1, 2), 1)):
            self.assertIs(row_holds(cord, right), True)
            for thing in near(right):
                due = isinstance(thing, tuple) and len(thing) == 3 and is_exactly(thing[0], "row") and \
                    isinstance(thing[1], tuple) and len(thing[1]) > 0 and type(thing[2]) is int and thing[2] != 0 and \
                    all(type(peg) is int and 1 <= peg <= 10 for peg in thing[1]) and summed_count(cord, thing[1]) == thing[2]
                self.assertIs(row_holds(cord, thing), due, thing)
        for thing in ODD + [("row", (), 1), ("row", (1,), 0), ("row", (1, 2), True), ("row", [1, 2], 1), ("row", (True, 2), 1),
                            ("row", (11,), 0), ("row", (1, 2)), ("row", (1, 2), 1, 1), ["row", (1, 2), 1], ("rows", (1, 2), 1)]:
            self.assertIs(row_holds(cord, thing), False, thing)
        for thing in (None, ("row", (1,), 0), ("row", (), 1), ("row", (1,), 1)):
            self.assertIs(row_holds((), thing), False)
