"""Forms, likeness and length, against a search over all cords to which rows of slides lead."""

import itertools
import random
import unittest

from pulledpegs.cords import alike_holds, are_alike, form_of, judge_alike, length_of
from tests.search import cords_of, reached, searched_form, searched_length

SMALL_WALLS = [
    (slips, rails) for slips in ((0, 0), (2, 0), (0, 3), (2, 3), (4, 4)) for rails in ((), ((1, 2),))
]

WALLS_OF_THREE = [
    (slips, rails)
    for slips in ((0, 0, 0), (0, 2, 0), (3, 0, 4), (2, 2, 2))
    for rails in ((), ((1, 2),), ((1, 3),), ((2, 3),), ((1, 2), (1, 3)), ((1, 2), (2, 3)), ((1, 3), (2, 3)),
                  ((1, 2), (1, 3), (2, 3)))
]

WALLS_OF_FOUR = [
    ((0, 0, 0, 0), ((1, 3), (2, 4))),
    ((0, 0, 0, 0), ((1, 2), (3, 4))),
    ((2, 0, 3, 0), ((1, 2), (1, 4), (2, 3))),
    ((0, 2, 0, 5), ((1, 4), (2, 3), (3, 4))),
    ((2, 3, 4, 5), ((1, 2), (1, 3), (1, 4), (2, 3), (2, 4), (3, 4))),
    ((0, 6, 0, 0), ((1, 2), (1, 3), (1, 4), (2, 3), (2, 4), (3, 4))),
    ((0, 0, 2, 2), ()),
]


class Forms(unittest.TestCase):
    def check(self, wall, cord):
        self.assertEqual(form_of(wall, cord), searched_form(wall, cord), (wall, cord))
        self.assertEqual(length_of(wall, cord), searched_length(wall, cord), (wall, cord))

    def test_all_short_cords_of_two_pegs(self):
        for wall in SMALL_WALLS:
            for cord in cords_of((1, 2), (-1, 1, 2), 4):
                self.check(wall, cord)

    def test_all_short_cords_of_three_pegs(self):
        for wall in WALLS_OF_THREE:
            for cord in cords_of((1, 2, 3), (-1, 1), 3):
                self.check(wall, cord)

    def test_winds_about_a_multiple_of_the_slip_number(self):
        for slip in (2, 3, 5, 30):
            near = [times * slip + more for times in (-2, -1, 0, 1, 3) for more in (-1, 0, 1)]
            for wall in (((slip, 0), ()), ((slip, 0), ((1, 2),)), ((0, slip), ())):
                for winds, others in itertools.product([wind for wind in near if wind], repeat=2):
                    for cord in (((1, winds),), ((2, winds), (1, others)), ((1, winds), (2, others), (1, -winds))):
                        self.check(wall, cord)

    def test_longer_cords(self):
        chance = random.Random(1)
        for wall in WALLS_OF_FOUR + WALLS_OF_THREE:
            pegs = range(1, len(wall[0]) + 1)
            for _ in range(12):
                cord = tuple((chance.choice(pegs), chance.choice((-2, -1, 1, 2, 6))) for _ in range(6))
                self.check(wall, cord)

    def test_what_slides_off_goes_on_sliding(self):
        wall = ((0, 0, 2, 0), ((1, 4), (2, 4), (3, 4)))
        inner = ((3, 1), (4, 5), (3, 1))
        cord = ((1, 1), (2, 3)) + inner + ((2, -3), (1, -1))
        self.assertEqual(form_of(wall, cord), ((4, 5),))

    def test_the_empty_cord(self):
        for wall in SMALL_WALLS + WALLS_OF_THREE + WALLS_OF_FOUR:
            self.assertEqual(form_of(wall, ()), ())
            self.assertEqual(length_of(wall, ()), 0)
            self.assertEqual(judge_alike(wall, (), ()), ("form", ()))

    def test_least_form_of_all_rails(self):
        rails = tuple(itertools.combinations(range(1, 11), 2))
        cord = tuple((peg, -peg) for peg in (3, 9, 1, 10, 4, 2, 8, 7, 6, 5))
        self.assertEqual(form_of(((0,) * 10, rails), cord), tuple((peg, -peg) for peg in range(1, 11)))
        self.assertEqual(form_of(((0,) * 10, ()), cord), cord)

    def test_lengths(self):
        self.assertEqual(length_of(((0, 5), ()), ((1, -7), (2, 3))), 9)
        self.assertEqual(length_of(((0, 5), ()), ((2, -1), (1, 7))), 8)
        self.assertEqual(length_of(((30,), ()), ((1, 15),)), 15)
        self.assertEqual(length_of(((30,), ()), ((1, 16),)), 14)
        self.assertEqual(length_of(((2,), ()), ((1, 10 ** 6 + 1),)), 1)
        self.assertEqual(length_of(((0,), ()), ((1, -(10 ** 6)),)), 10 ** 6)


class Alike(unittest.TestCase):
    def check(self, wall, one, other, due):
        self.assertIs(are_alike(wall, one, other), due)
        if due:
            right = ("form", searched_form(wall, one))
        else:
            right = ("forms", searched_form(wall, one), searched_form(wall, other))
        self.assertEqual(judge_alike(wall, one, other), right)
        self.assertIs(alike_holds(wall, one, other, right), True)

    def test_all_pairs_of_short_cords(self):
        for wall in SMALL_WALLS:
            led = [(cord, reached(wall, cord)) for cord in cords_of((1, 2), (-1, 1, 2), 2)]
            for (one, from_one), (other, from_other) in itertools.product(led, repeat=2):
                self.check(wall, one, other, not from_one.isdisjoint(from_other))

    def test_cords_with_rows_to_one_cord(self):
        chance = random.Random(2)
        for wall in WALLS_OF_FOUR:
            for _ in range(6):
                one = tuple((chance.randint(1, 4), chance.choice((-1, 1, 3))) for _ in range(5))
                seen = sorted(reached(wall, one))
                for other in chance.sample(seen, min(3, len(seen))):
                    self.check(wall, one, other, True)
                self.check(wall, one, one + ((1, 1),), False)

    def test_other_values_are_no_certificates(self):
        wall = ((0, 3, 0), ((1, 3),))
        one, other, third = ((3, 1), (1, 1)), ((1, 1), (3, 1)), ((2, 1),)
        form = ((1, 1), (3, 1))
        self.assertIs(alike_holds(wall, one, other, ("form", form)), True)
        for thing in (
                ("form", one), ("form", ()), ("form",), ("form", form, form), ("forms", form), ("forms", form, form),
                ("form", list(form)), ["form", form], ("form", ((1, 1), [3, 1])), ("form", ((True, 1), (3, 1))),
                ("form", ((1, True), (3, 1))), ("form", ((1, 1), (3, True))), ("form", form + ((2, 3),)), form,
                ("form", form[0]), ("form", None), (None, form), ("Form", form), ("cord", form), "form", {"form": form}):
            self.assertIs(alike_holds(wall, one, other, thing), False, thing)
        self.assertIs(alike_holds(wall, one, third, ("forms", form, third)), True)
        for thing in (
                ("forms", third, form), ("forms", one, third), ("forms", form, ((2, 4),)), ("forms", form, third, third),
                ("forms", form), ("form", form), ("form", third), ("form", form, third), ["forms", form, third],
                ("forms", form, ((2, True),)), ("forms", ((True, 1), (3, 1)), third), ("forms", form, [(2, 1)]),
                ("forms", form, ()), ("forms", (), third), ("forms", form, third[0])):
            self.assertIs(alike_holds(wall, one, third, thing), False, thing)
