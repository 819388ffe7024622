"""Cords led round, against a search that leads short cords round by other cords."""

import itertools
import random
import unittest

from pulledpegs.cords import behind, form_of, is_cord
from pulledpegs.rounds import is_round, judge_round, round_form, round_holds
from tests.odd import ODD
from tests.search import cords_of, led_forms, searched_form, searched_round_form, turned_about

WALLS = [
    ((0, 0), ()), ((0, 0), ((1, 2),)), ((2, 0), ()), ((2, 3), ()),
    ((0, 0, 0), ()), ((0, 0, 0), ((1, 3),)), ((0, 0, 0), ((1, 2), (1, 3))), ((0, 0, 0), ((1, 2), (1, 3), (2, 3))),
    ((2, 3, 0), ()), ((2, 2, 2), ((1, 2),)), ((0, 5, 0), ((2, 3),)), ((3, 3, 3), ()),
    ((0, 0, 0, 0), ((1, 3), (2, 4))), ((0, 2, 3, 0), ((1, 2), (3, 4))), ((0, 0, 2, 2), ((1, 4), (2, 3), (2, 4))),
    ((0, 0, 0, 0, 0), ((1, 3), (1, 4), (2, 4), (2, 5), (3, 5))),
    ((0, 2, 0, 3, 0), ((1, 3), (1, 4), (1, 5), (2, 4), (2, 5), (3, 5))),
    ((0,) * 6, ((1, 3), (1, 4), (1, 5), (2, 4), (2, 5), (2, 6), (3, 5), (3, 6), (4, 6))),
]


def most_winds(form):
    """No more winds than these can come together at one peg."""
    totals = {}
    for peg, winds in form:
        totals[peg] = totals.get(peg, 0) + abs(winds)
    return max(totals.values(), default=1)


def led_from(wall, cord):
    return led_forms(wall, cord, form_of, 2, most_winds(form_of(wall, cord)))


def random_cord(chance, wall, many):
    return tuple((chance.randint(1, len(wall[0])), chance.choice((-1, -1, 1, 1, 2))) for _ in range(many))


def is_led(wall, lead, one, other):
    return form_of(wall, lead + one + turned_about(lead)) == form_of(wall, other)


class Rounds(unittest.TestCase):
    def check_round(self, wall, one, other):
        told = judge_round(wall, one, other)
        self.assertEqual((told[0], len(told)), ("cord", 2))
        self.assertTrue(is_cord(wall, told[1]))
        self.assertTrue(is_led(wall, told[1], one, other), (wall, one, other, told))
        self.assertIs(round_holds(wall, one, other, told), True)
        self.assertIs(is_round(wall, one, other), True)
        self.assertEqual(round_form(wall, one), round_form(wall, other))
        return told[1]

    def check_apart(self, wall, one, other):
        told = judge_round(wall, one, other)
        self.assertEqual(told, ("forms", round_form(wall, one), round_form(wall, other)))
        self.assertNotEqual(told[1], told[2])
        self.assertIs(round_holds(wall, one, other, told), True)
        self.assertIs(is_round(wall, one, other), False)

    def test_six_pairs_in_each(self):
        chance = random.Random(4)
        for wall in WALLS:
            for _ in range(4):
                one = random_cord(chance, wall, 6)
                led = led_from(wall, one)
                self.assertEqual(round_form(wall, one), searched_round_form(led), (wall, one))
                short_enough = sorted(form for form in led if len(form) <= 6)
                for other in chance.sample(short_enough, min(5, len(short_enough))):
                    self.check_round(wall, one, other)
                for other in (random_cord(chance, wall, 6), tuple(chance.sample(one, 6)), turned_about(one)):
                    if form_of(wall, other) in led:
                        self.check_round(wall, one, other)
                    elif led.isdisjoint(led_from(wall, other)):
                        self.check_apart(wall, one, other)
                    else:
                        self.check_round(wall, one, other)

    def test_all_short_cords(self):
        for wall in (((0, 0), ()), ((0, 3), ()), ((2, 3), ((1, 2),)), ((0, 0, 0), ((1, 2),)), ((2, 0, 0), ((2, 3),))):
            forms = sorted({form_of(wall, cord) for cord in cords_of(range(1, len(wall[0]) + 1), (-1, 1), 3)})
            led = {form: led_from(wall, form) for form in forms}
            for form in forms:
                self.assertEqual(round_form(wall, form), searched_round_form(led[form]), (wall, form))
            for one, other in itertools.product(forms[::3], forms):
                if led[one].isdisjoint(led[other]):
                    self.check_apart(wall, one, other)
                else:
                    self.check_round(wall, one, other)

    def test_six_unlike_pegs_on_many_webs(self):
        chance = random.Random(5)
        rails = list(itertools.combinations(range(1, 7), 2))
        for _ in range(150):
            wall = ((0,) * 6, tuple(rail for rail in rails if chance.randrange(3)))
            one = tuple((peg, chance.choice((-1, 1, 2))) for peg in chance.sample(range(1, 7), 6))
            other = one
            for _ in range(20):
                at = chance.randrange(6)
                other = form_of(wall, other)
                other = other[at:] + other[:at]
            self.check_round(wall, one, other)

    def test_round_forms_are_their_own(self):
        chance = random.Random(6)
        for wall in WALLS:
            for _ in range(10):
                form = round_form(wall, random_cord(chance, wall, 6))
                self.assertEqual(round_form(wall, form), form)
                self.assertEqual(form_of(wall, form), form)

    def test_edges(self):
        for wall in WALLS:
            self.assertEqual(round_form(wall, ()), ())
            self.assertEqual(judge_round(wall, (), ())[0], "cord")
            for peg in range(1, len(wall[0]) + 1):
                self.assertEqual(round_form(wall, ((peg, 1),)), ((peg, 1),))
                self.check_apart(wall, ((peg, 1),), ())
                self.check_round(wall, ((peg, 1), (peg, -1)), ())
        self.check_round(((3, 0), ()), ((1, 4),), ((2, 5), (1, -2), (2, -5)))
        self.check_apart(((0, 0), ()), ((1, 4),), ((2, 5), (1, -2), (2, -5)))
        self.check_round(((30, 0), ()), ((1, 15), (2, 10 ** 6)), ((2, 10 ** 6), (1, -15)))
        self.check_apart(((0, 0), ()), ((1, 15), (2, 10 ** 6)), ((2, 10 ** 6), (1, -15)))

    def test_joining_round(self):
        wall = ((0, 0, 0), ((1, 3),))
        self.assertEqual(round_form(wall, ((1, 1), (2, 1), (3, 1), (1, 4))), ((1, 5), (2, 1), (3, 1)))
        self.assertEqual(round_form(wall, ((3, 2), (2, 1), (1, 1), (3, -2))), ((1, 1), (2, 1)))
        self.assertEqual(round_form(wall, ((2, 1), (3, 1), (1, 1))), ((1, 1), (2, 1), (3, 1)))


class Certificates(unittest.TestCase):
    def test_whoever_made_the_cord(self):
        chance = random.Random(7)
        for wall in WALLS:
            pegs = range(1, len(wall[0]) + 1)
            for _ in range(6):
                one = random_cord(chance, wall, 6)
                lead = random_cord(chance, wall, 2)
                led = form_of(wall, lead + one + turned_about(lead))
                other = led if len(led) <= 6 else one
                lead = lead if len(led) <= 6 else ()
                peg = chance.choice(pegs)
                nothing = ((peg, 3), (peg, -1), (peg, -2))
                slipped = tuple((peg, slip * 7) for peg, slip in zip(pegs, wall[0]) if slip)
                for longer in (lead, judge_round(wall, one, other)[1], lead + one, other + lead, turned_about(other) + lead,
                               lead + nothing, nothing + lead, slipped + lead, lead + one * 40, lead + nothing * 300):
                    self.assertIs(round_holds(wall, one, other, ("cord", longer)), True, (wall, one, other, longer))

    def test_all_short_leads(self):
        for wall in (((0, 0), ()), ((0, 3), ()), ((0, 0, 0), ((1, 3),)), ((2, 0, 0), ((1, 2),))):
            leads = list(cords_of(range(1, len(wall[0]) + 1), (-1, 2), 2))
            for one in (((1, 1), (2, 1)), ((2, 1), (1, -1)), ((1, 2),), ()):
                goals = {searched_form(wall, lead + one + turned_about(lead)) for lead in leads}
                for other in sorted(goals)[::2]:
                    for lead in leads:
                        due = searched_form(wall, lead + one + turned_about(lead)) == other
                        self.assertIs(round_holds(wall, one, other, ("cord", lead)), due, (wall, one, other, lead))

    def test_no_cord_leads_unlike_ones(self):
        wall = ((0, 2, 0), ((1, 3),))
        for lead in cords_of((1, 2, 3), (-1, 1), 3):
            self.assertIs(round_holds(wall, ((1, 1),), ((1, -1),), ("cord", lead)), False)

    def test_round_forms(self):
        wall = ((0, 3, 0), ((1, 3),))
        one, other = ((2, 1), (1, 4), (2, -1)), ((2, 2), (1, 1), (3, 1))
        first, second = ((1, 4),), ((1, 1), (2, 2), (3, 1))
        self.assertEqual(judge_round(wall, one, other), ("forms", first, second))
        self.assertIs(round_holds(wall, one, other, ("forms", first, second)), True)
        for thing in (
                ("forms", second, first), ("forms", one, other), ("forms", first, other), ("forms", one, second),
                ("forms", first, first), ("forms", first), ("forms", first, second, ()), ("form", first, second),
                ["forms", first, second], ("forms", list(first), second), ("forms", first, ((1, True), (2, 2), (3, 1))),
                ("forms", first, ((True, 1), (2, 2), (3, 1))), ("forms", first, ((1, 1), (2, 2), (3, True))),
                ("forms", first, ((1, 1), (2, -1), (3, 1))), ("forms", (), second), ("forms", (first, second)),
                ("cord", ()), ("cord", first), ("cord", first, second)):
            self.assertIs(round_holds(wall, one, other, thing), False, thing)

    def test_no_forms_for_cords_that_are_round(self):
        wall = ((0, 3, 0), ((1, 3),))
        one, other = ((1, 1), (2, 1)), ((2, 1), (1, 1))
        form = ((1, 1), (2, 1))
        for thing in (("forms", form, form), ("forms", one, other), ("forms", other, one), ("forms", form, ((2, 1), (1, 1)))):
            self.assertIs(round_holds(wall, one, other, thing), False)
            self.assertIs(round_holds(wall, one, one, thing), False)

    def test_other_values(self):
        wall = ((0, 3, 0), ((1, 3),))
        one, other = ((1, 1), (2, 1)), ((2, 1), (1, 1))
        lead = ((2, 1),)
        self.assertIs(round_holds(wall, one, other, ("cord", lead)), True)
        for thing in (
                ("cord", list(lead)), ("cord", ([2, 1],)), ("cord", ((2, True),)), ["cord", lead], ("cord", lead, lead),
                ("cord",), "cord", lead, ("Cord", lead), (None, lead), ("cord", None), ("cord", ((4, 1),) + lead),
                ("cord", ((1, 0),) + lead), ("cord", (lead,)), ("cord", lead[0]), ("forms", lead), ("lead", lead)):
            self.assertIs(round_holds(wall, one, other, thing), False, thing)
        for thing in ODD:
            self.assertIs(round_holds(wall, one, other, thing), False, thing)
            if thing != () and not is_cord(wall, thing):
                self.assertIs(round_holds(wall, one, other, ("cord", thing)), False, thing)
            self.assertIs(round_holds(wall, one, ((1, 1),), ("forms", thing, ((1, 1),))), False, thing)

    def test_a_swap_may_be_led_round_anything(self):
        wall = ((0, 0, 0), ())
        one = ((1, 1), (2, 1), (1, -1), (2, -1))
        for lead in (((3, 1),), ((1, 1),), ((2, -4),)):
            other = lead + one + turned_about(lead)
            self.assertIs(round_holds(wall, one, other, ("cord", behind(wall, lead, one))), True)
            self.assertIs(round_holds(wall, other, one, ("cord", turned_about(lead))), True)
            self.assertIs(round_holds(wall, other, one, ("cord", lead)), False)
