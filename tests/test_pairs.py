import itertools
import random
import unittest

from pulledpegs.cords import are_alike, swap
from pulledpegs.errors import BadCord, BadWall, NotOnWall
from pulledpegs.pairs import fall_ways, judge_lasts, lasting_for, lasting_with, lasts, lasts_holds
from pulledpegs.pulled import does_keep, first_fall
from pulledpegs.rules import both, rule_of
from pulledpegs.wishes import wish_holds
from tests.near import is_exactly, near
from tests.odd import ODD
from tests.search import cords_of
from tests.sets import all_sets, has_cord_by_sets, random_wall
from tests.test_pulled import random_cord

FREE = ((0, 0, 0), ())
RAILED = ((0, 2, 0), ((1, 3), (2, 3)))
SWAP = ((1, 1), (2, 1), (1, -1), (2, -1))


def kept_sets(wall, cord):
    return [pegs for pegs in all_sets(len(wall[0])) if does_keep(wall, cord, pegs)]


def pairs_to_try(seed):
    """Walls, and pairs of cords of them: small ones, alike ones, and some at random."""
    chance = random.Random(seed)
    for wall in (((0, 0), ()), ((2, 0), ()), ((0, 0), ((1, 2),))):
        cords = list(cords_of((1, 2), (1, -1), 2)) + [SWAP, SWAP + ((1, 1),), ((1, 2), (2, 2))]
        for one, other in itertools.product(cords, repeat=2):
            yield wall, one, other
    for many in (3, 4):
        for _ in range(25):
            wall = random_wall(chance, many, (0, 0, 2, 3), chance.choice((0, 0.3)))
            half = random_cord(chance, many, 3, (-1, 1))
            drawn = [half + tuple((peg, -winds) for peg, winds in half), random_cord(chance, many, 6, (-1, 1, 2)), half,
                     swap(wall, half[:1], half[1:2]), ()]
            yield wall, drawn[0], drawn[1]
            yield wall, chance.choice(drawn), chance.choice(drawn)


class Lasts(unittest.TestCase):
    def test_all_sets(self):
        words = set()
        for wall, one, other in pairs_to_try(301):
            first, second = kept_sets(wall, one), kept_sets(wall, other)
            right = [("set", pegs) for pegs in second if pegs not in first] or [("lasts",)]
            self.assertIs(lasts(wall, one, other), right == [("lasts",)], (wall, one, other))
            told = judge_lasts(wall, one, other)
            self.assertTrue(any(is_exactly(told, thing) for thing in right), (wall, one, other, told))
            for thing in [("set", pegs) for pegs in all_sets(len(wall[0]))] + [("lasts",)]:
                self.assertIs(lasts_holds(wall, one, other, thing), thing in right, (wall, one, other, thing))
            words.add(told[0])
        self.assertEqual(words, {"lasts", "set"})

    def test_wrong_certificates(self):
        for one, other in ((SWAP, ((1, 1), (2, 1))), (((1, 1), (2, 1)), SWAP), (((1, 1),), ((3, 1),)), ((), ())):
            right = [("set", pegs) for pegs in kept_sets(FREE, other) if pegs not in kept_sets(FREE, one)] or [("lasts",)]
            for thing in list(near(judge_lasts(FREE, one, other))) + ODD + [
                    ("set",), ("set", (1,), (2,)), ["set", (3,)], ("set", [1]), ("set", (True,)), ("set", (4,)), ("set", (2, 1)), "lasts",
                    ("lasts", ()), ["lasts"], ("set", (1, 1)), ("set", None), ("last",), ("sets", (1,))]:
                due = any(is_exactly(thing, other) for other in right)
                self.assertIs(lasts_holds(FREE, one, other, thing), due, (one, other, thing))

    def test_it_never_falls_ahead(self):
        for wall, one, other in itertools.islice(pairs_to_try(302), 0, None, 9):
            never = all((first_fall(wall, one, order) or 0) >= (first_fall(wall, other, order) or 0)
                        for order in itertools.permutations(range(1, len(wall[0]) + 1)))
            self.assertIs(lasts(wall, one, other), never)


class Ways(unittest.TestCase):
    def ways(self, wall, one, other):
        found = set()
        for order in itertools.permutations(range(1, len(wall[0]) + 1)):
            first, second = first_fall(wall, one, order), first_fall(wall, other, order)
            found.add("both" if first == second else "first" if first < second else "second")
        return tuple(sorted(found))

    def test_all_orders(self):
        seen = set()
        for wall, one, other in pairs_to_try(303):
            due = self.ways(wall, one, other)
            self.assertTrue(is_exactly(fall_ways(wall, one, other), due), (wall, one, other))
            seen.add(due)
        self.assertGreaterEqual(seen, {("both",), ("first",), ("second",), ("first", "second"), ("both", "first"), ("both", "second")})

    def test_cords_alike_to_none(self):
        for wall in (FREE, RAILED):
            self.assertEqual(fall_ways(wall, (), ((1, 1),)), ("first",))
            self.assertEqual(fall_ways(wall, ((1, 1),), ((3, 1), (3, -1))), ("second",))
            self.assertEqual(fall_ways(wall, (), ((3, 1), (3, -1))), ("both",))
            self.assertEqual(fall_ways(wall, ((1, 1), (2, 1)), ((1, 1), (2, 1))), ("both",))
        self.assertEqual(fall_ways(RAILED, ((1, 1), (3, 1)), ((3, 1), (1, 1), (2, 2))), ("both",))

    def test_walls_of_six_pegs(self):
        chance = random.Random(304)
        wall = ((0, 0, 2, 0, 0, 3), ((1, 2), (4, 6)))
        for _ in range(3):
            one, other = random_cord(chance, 6, 10, (-1, 1)), random_cord(chance, 6, 10, (-1, 1))
            self.assertEqual(fall_ways(wall, one, other), self.ways(wall, one, other))
        self.assertEqual(fall_ways(((0,) * 6, ()), ((1, 1), (2, 1)), ((2, 1), (3, 1))), ("both", "first", "second"))


class Tied(unittest.TestCase):
    def test_lasting_for(self):
        for wall, one, other in pairs_to_try(305):
            cord = lasting_for(wall, one, other)
            first, second = kept_sets(wall, one), kept_sets(wall, other)
            due = [pegs for pegs in all_sets(len(wall[0])) if pegs in first or pegs in second]
            self.assertEqual(kept_sets(wall, cord), due, (wall, one, other))
            self.assertEqual([lasts(wall, cord, one), lasts(wall, cord, other)], [True, True])

    def test_lasting_with(self):
        told = set()
        for wall, one, other in pairs_to_try(306):
            rule = both(len(wall[0]), rule_of(wall, one), rule_of(wall, other))
            if has_cord_by_sets(wall, rule):
                cord = lasting_with(wall, one, other)
                second = kept_sets(wall, other)
                self.assertEqual(kept_sets(wall, cord), [pegs for pegs in kept_sets(wall, one) if pegs in second])
                self.assertEqual([lasts(wall, one, cord), lasts(wall, other, cord)], [True, True])
            else:
                with self.assertRaises(NotOnWall) as caught:
                    lasting_with(wall, one, other)
                self.assertEqual(caught.exception.certificate[0], "parted")
                self.assertIs(wish_holds(wall, rule, caught.exception.certificate), True)
            told.add(has_cord_by_sets(wall, rule))
        self.assertEqual(told, {True, False})

    def test_told_ones(self):
        self.assertIs(are_alike(FREE, lasting_for(FREE, (), ((2, 1), (2, -1))), ()), True)
        with self.assertRaises(NotOnWall) as caught:
            lasting_with(RAILED, ((1, 1),), ((3, 1),))
        self.assertIn(caught.exception.certificate, (("parted", (1, 3), (1,)), ("parted", (1, 3), (3,))))
        self.assertEqual(rule_of(RAILED, lasting_with(RAILED, ((1, 1),), ((2, 1),))), ((1, 2),))
        self.assertEqual(rule_of(RAILED, lasting_with(RAILED, ((1, 1), (3, 1)), ((3, 1),))), ((3,),))

    def test_errors_in_their_order(self):
        wrong = (None, ((4, 1),), ((1, 0),), [(1, 1)], ((1, True),))
        for function in (lasts, judge_lasts, fall_ways, lasting_for, lasting_with, lambda *its: lasts_holds(*its, None)):
            with self.assertRaises(BadWall):
                function(None, None, None)
            for one, other in itertools.product(wrong, wrong + (SWAP,)):
                with self.assertRaises(BadCord) as caught:
                    function(RAILED, one, other)
                self.assertIs(caught.exception.thing, one)
            for other in wrong:
                with self.assertRaises(BadCord) as caught:
                    function(RAILED, SWAP, other)
                self.assertIs(caught.exception.thing, other)
