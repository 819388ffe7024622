import itertools
import random
import unittest

from pulledpegs.cords import form_of, slid, swap
from pulledpegs.errors import BadOrder
from pulledpegs.pulled import cord_on, does_keep, first_fall, judge_keep, keep_holds
from tests.near import is_exactly, near
from tests.search import all_slides, cords_of, reached, searched_form, turned_about
from tests.sets import all_sets, random_wall, subsets

WALLS = [((0, 0, 0), ()), ((2, 3, 0), ()), ((0, 0, 2), ((1, 3),)), ((3, 0, 2), ((1, 2), (2, 3))),
         ((2, 0, 4), ((1, 2), (1, 3), (2, 3)))]


def random_cord(chance, many, pairs, winds=(-2, -1, 1, 2)):
    return tuple((chance.randint(1, many), chance.choice(winds)) for _ in range(pairs))


def slack_cord(chance, many, pairs):
    """A cord that slides take off wherever it hangs."""
    cord = ()
    while len(cord) + 2 <= pairs:
        at = chance.randint(0, len(cord))
        peg, winds = chance.randint(1, many), chance.choice((-3, -1, 1, 2))
        cord = cord[:at] + ((peg, winds),) + cord[at:]
        end = chance.choice([at, at, len(cord) - 1])
        if end == at or all(other == peg for other, _ in cord[at + 1:]):
            cord = cord[:at + 1] + ((peg, -winds),) + cord[at + 1:]
        else:
            cord = cord[:at] + ((peg, winds), (peg, -winds)) + cord[at + 1:]
    return cord


class Pulled(unittest.TestCase):
    def check_slides(self, wall, left, told):
        word, slides = told
        self.assertEqual((len(told), word), (2, "slides"))
        for slide in slides:
            left = slid(wall, left, slide)
        self.assertEqual(left, ())

    def check(self, wall, cord, kept, form):
        left = tuple(pair for pair in cord if pair[0] in kept)
        self.assertEqual(cord_on(wall, cord, kept), left)
        self.assertIs(does_keep(wall, cord, kept), form != ())
        told = judge_keep(wall, cord, kept)
        if form == ():
            self.check_slides(wall, left, told)
        else:
            self.assertTrue(is_exactly(told, ("rest", form)))
        self.assertIs(keep_holds(wall, cord, kept, told), True)
        self.assertIs(keep_holds(wall, cord, kept, ("rest", form)), form != ())
        self.assertIs(keep_holds(wall, cord, kept, ("slides", ())), left == ())

    def test_all_sets_of_small_walls(self):
        for wall in WALLS:
            for cord in cords_of((1, 2, 3), (-1, 2), 3):
                for kept in all_sets(3):
                    left = tuple(pair for pair in cord if pair[0] in kept)
                    self.check(wall, cord, kept, searched_form(wall, left))

    def test_longer_cords(self):
        chance = random.Random(31)
        for wall in WALLS:
            for many in (5, 6):
                for _ in range(12):
                    cord = random_cord(chance, 3, many)
                    for kept in all_sets(3):
                        self.check(wall, cord, kept, searched_form(wall, tuple(pair for pair in cord if pair[0] in kept)))

    def test_more_pegs_never_let_it_fall(self):
        chance = random.Random(32)
        for _ in range(30):
            wall = random_wall(chance, 4)
            cord = random_cord(chance, 4, 8)
            for kept in all_sets(4):
                if does_keep(wall, cord, kept):
                    for peg in range(1, 5):
                        self.assertIs(does_keep(wall, cord, tuple(sorted({*kept, peg}))), True)

    def test_alike_cords_are_alike_on_each_set(self):
        wall = ((3, 0, 2), ((1, 2),))
        cord = ((1, 2), (2, 1), (1, 1), (3, 2), (2, -1))
        for other in reached(wall, cord):
            for kept in all_sets(3):
                self.assertIs(does_keep(wall, other, kept), does_keep(wall, cord, kept))

    def test_slides_for_long_cords(self):
        chance = random.Random(33)
        for many in (2, 4, 10):
            for _ in range(25):
                wall = random_wall(chance, many)
                cord = slack_cord(chance, many, 30)
                one, other = random_cord(chance, many, 6), random_cord(chance, many, 5)
                for taken in (cord, one + turned_about(one), swap(wall, cord[:10] + cord[10:], other), one * 2):
                    for kept in (tuple(range(1, many + 1)), tuple(range(1, many + 1, 2)), (1,), (2,), ()):
                        left = tuple(pair for pair in taken if pair[0] in kept)
                        self.check(wall, taken, kept, form_of(wall, left))

    def test_swaps_of_railed_pegs_slide_off(self):
        wall = ((0, 4, 0, 2), ((1, 2), (1, 4), (2, 3), (3, 4)))
        one, other = ((1, 5), (3, 1), (1, -2), (3, 2)), ((2, 7), (4, 1), (2, -2), (4, 3), (2, 1))
        cord = swap(wall, one, other)
        self.check(wall, cord, (1, 2, 3, 4), ())
        self.check(wall, cord, (1, 3), ())
        self.check(wall, one + other, (1, 2, 3, 4), form_of(wall, one + other))

    def test_every_row_of_slides_is_accepted_and_no_other(self):
        chance = random.Random(34)
        for wall in WALLS:
            for cord in (((1, 1), (1, -1)), ((2, 3), (1, 2), (3, 2), (1, -2), (2, -3), (3, -2)), ((3, 4), (1, 6), (2, 6)),
                         ((3, 1), (3, 1), (3, 2)), ((1, 1), (2, 1), (1, -1), (2, -1))):
                for _ in range(25):
                    self.walk(wall, cord, (1, 2, 3), chance)
                    self.walk(wall, cord, (1, 3), chance)

    def walk(self, wall, cord, kept, chance):
        left, slides = tuple(pair for pair in cord if pair[0] in kept), ()
        while len(slides) < 40:
            told = ("slides", slides)
            self.assertIs(keep_holds(wall, cord, kept, told), left == (), (wall, cord, told))
            steps = all_slides(wall, left)
            if not steps:
                break
            slide, left = chance.choice(steps)
            slides += (slide,)

    def test_next_to_a_right_certificate(self):
        wall, cord = ((0, 2, 0), ((1, 3),)), ((1, 1), (2, 1), (1, -1), (2, 1), (3, 1), (1, 2), (3, -1), (1, -2))
        rest = judge_keep(wall, cord, (1, 2))
        for thing in near(rest):
            self.assertIs(keep_holds(wall, cord, (1, 2), thing), False, thing)
        slides = judge_keep(wall, cord, (1, 3))
        for thing in near(slides):
            self.assertIs(keep_holds(wall, cord, (1, 3), thing), self.is_row_off(wall, cord_on(wall, cord, (1, 3)), thing))

    def is_row_off(self, wall, left, thing):
        if not (isinstance(thing, tuple) and len(thing) == 2 and is_exactly(thing[0], "slides")):
            return False
        if not isinstance(thing[1], tuple):
            return False
        for slide in thing[1]:
            behind = [other for right, other in all_slides(wall, left) if is_exactly(right, slide)]
            if not behind:
                return False
            left = behind[0]
        return left == ()

    def test_wrong_certificates(self):
        wall, cord = ((2, 0), ()), ((1, 1), (2, 1), (1, 1))
        for kept, right in (((1,), ("slides", (("join", 0), ("turn", 0)))), ((1, 2), ("rest", cord))):
            self.assertIs(keep_holds(wall, cord, kept, right), True)
        for thing in (("slides", (("turn", 0), ("join", 0), ("turn", 0))), ("slides", (("turn", 1), ("join", 0), ("turn", 0)))):
            self.assertIs(keep_holds(wall, cord, (1,), thing), True)
        for thing in (("slides", (("join", 0),)), ("slides", (("join", 0), ("turn", 0), ("turn", 0))), ("rest", ()),
                      ("slides", (("turn", -1), ("join", 0), ("turn", 0))), ("slides", [("join", 0), ("turn", 0)]),
                      ("slides", (["join", 0], ("turn", 0))), ("slides", (("join", False), ("turn", 0))), ("rest", ((1, 2),)),
                      ("slides", (("join", 0), ("turn", 0)), ()), ("slides",), ("rest",), ("slides", None), ("rest", None)):
            self.assertIs(keep_holds(wall, cord, (1,), thing), False, thing)
        for thing in (("rest", ()), ("rest", list(cord)), ("rest", cord[:2]), ("rest", ((True, 1),) + cord[1:]),
                      ("rest", cord, ()), ["rest", cord], ("slides", ()), ("slides", (("turn", 0),)), ("form", cord),
                      ("rest", cord + ((1, 1), (1, -1))), ("rest", ((1, 3),) + cord[1:])):
            self.assertIs(keep_holds(wall, cord, (1, 2), thing), False, thing)

    def test_the_form_alone_is_a_rest(self):
        wall, cord = ((0, 0, 0), ((1, 2),)), ((2, 1), (1, 1), (3, 1), (3, 1))
        for other in reached(wall, cord):
            self.assertIs(keep_holds(wall, cord, (1, 2, 3), ("rest", other)), other == ((1, 1), (2, 1), (3, 2)))

    def test_first_fall_by_sets(self):
        chance = random.Random(35)
        for many in (1, 3, 4):
            for _ in range(12):
                wall = random_wall(chance, many)
                cord = random_cord(chance, many, chance.choice((0, 2, 5, 9)))
                for pegs in subsets(range(1, many + 1)):
                    for pulls in itertools.permutations(pegs):
                        left = [tuple(peg for peg in range(1, many + 1) if peg not in pulls[:at])
                                for at in range(len(pulls) + 1)]
                        falls = [at for at, kept in enumerate(left) if not does_keep(wall, cord, kept)]
                        due = falls[0] if falls else None
                        self.assertEqual(first_fall(wall, cord, pulls), due)

    def test_first_fall(self):
        wall, cord = ((0, 0, 2), ()), ((1, 1), (2, 1), (1, -1), (2, -1), (3, 1))
        for pulls, due in (((), None), ((1,), None), ((3, 1), 2), ((3, 2, 1), 2), ((1, 2, 3), 3), ((1, 2), None), ((3,), None)):
            self.assertEqual(first_fall(wall, cord, pulls), due)
        self.assertEqual(first_fall(wall, (), ()), 0)
        self.assertEqual(first_fall(wall, ((3, 2),), (1, 2, 3)), 0)
        self.assertIs(type(first_fall(wall, ((3, 2),), ())), int)

    def test_what_is_no_order_of_pulls(self):
        wall = ((0, 2, 0), ())
        for pulls in ((1, 1), (4,), (0,), (-1,), (1, 2, 1), (True,), (2, True), [1], [], (None,), ((1,),), "1", 1, {1: 2}):
            with self.assertRaises(BadOrder) as caught:
                first_fall(wall, ((1, 1),), pulls)
            self.assertIs(caught.exception.thing, pulls)
            with self.assertRaises(BadOrder):
                first_fall(wall, (), pulls)
