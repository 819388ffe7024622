import random
import unittest

from pulledpegs.changes import changed_cord, is_change, led_rule, wall_behind
from pulledpegs.cords import are_alike, form_of, slid
from pulledpegs.errors import BadChange, BadCord, BadRule
from pulledpegs.rules import rule_of
from pulledpegs.walls import is_right
from tests.lead import led_cord, led_wall, right_changes
from tests.near import is_exactly, near
from tests.search import all_slides, cords_of
from tests.sets import joined, random_rule, random_wall, rules_of, walls_of
from tests.test_pulled import random_cord
from tests.test_wishes import other_cord_for

WORDS = ("rail", "wear", "bring", "double", "carry")


def tried(many):
    """Tuples with the five words, and all numbers that might be right or are next to right ones."""
    numbers = (-1, 0, True, False, None, "1", 1.0) + tuple(range(1, many + 2))
    for word in WORDS + ("", "rails", "Wear", None, 1):
        yield (word,)
        for i in numbers:
            yield (word, i)
            for j in numbers + (2, 3, 4, 5, 6, 15, 30, 31, 10 ** 39):
                yield (word, i, j)


class Changes(unittest.TestCase):
    def check_all(self, wall):
        due = right_changes(wall)
        for thing in tried(len(wall[0])):
            right = any(is_exactly(thing, change) for change in due if change == thing)
            self.assertIs(is_change(wall, thing), right, (wall, thing))
        for change in due:
            self.assertIs(is_change(wall, change), True)
            led = led_wall(wall, change)
            self.assertTrue(is_exactly(wall_behind(wall, change), led), (wall, change))
            self.assertIs(is_right(led), True)

    def test_small_walls(self):
        for many in (1, 2):
            for wall in walls_of(many, (0, 2, 4, 30)):
                self.check_all(wall)
        for wall in walls_of(3, (0, 4)):
            self.check_all(wall)

    def test_greater_walls(self):
        chance = random.Random(81)
        for many in (4, 5, 7, 9, 10):
            for _ in range(4):
                self.check_all(random_wall(chance, many, (0, 0, 2, 6, 30)))
                self.check_all(random_wall(chance, many, (0, 0, 12), 0.8))

    def test_wear(self):
        for slip in (0,) + tuple(range(2, 31)):
            wall = ((0, slip), ((1, 2),))
            for worn in range(-3, 63):
                due = 2 <= worn <= 30 and (slip == 0 or (worn < slip and slip % worn == 0))
                self.assertIs(is_change(wall, ("wear", 2, worn)), due, (slip, worn))
                if due:
                    self.assertEqual(wall_behind(wall, ("wear", 2, worn)), ((0, worn), ((1, 2),)))

    def test_bring(self):
        self.assertEqual(wall_behind(((0, 4, 2, 4, 0), ((1, 2), (1, 4), (3, 5))), ("bring", 2, 4)), ((0, 4, 2, 0), ((1, 2), (3, 4))))
        for wall, thing in ((((2, 4), ()), ("bring", 1, 2)), (((4, 4), ()), ("bring", 2, 1)), (((4, 4), ((1, 2),)), ("bring", 1, 2)),
                            (((0, 0, 0), ((1, 3),)), ("bring", 1, 2)), (((0, 0, 0), ((2, 3),)), ("bring", 1, 2)),
                            (((0, 0), ()), ("bring", 1, 1))):
            self.assertIs(is_change(wall, thing), False)
        self.assertIs(is_change(((0, 0, 0), ((1, 3), (2, 3))), ("bring", 1, 2)), True)

    def test_double(self):
        self.assertIs(is_change(((0,) * 9, ()), ("double", 9)), True)
        self.assertIs(is_change(((0,) * 10, ()), ("double", 9)), False)
        self.assertIs(is_change(((0, 2), ()), ("double", 2)), False)
        self.assertEqual(wall_behind(((0, 2, 0), ((1, 2), (2, 3))), ("double", 3)), ((0, 2, 0, 0), ((1, 2), (2, 3), (2, 4))))

    def test_carry_in_both_orders(self):
        wall = ((0, 0, 0), ((2, 3),))
        self.assertEqual([is_change(wall, ("carry", 1, 2)), is_change(wall, ("carry", 2, 1)), is_change(wall, ("carry", 2, 3))],
                         [True, False, False])
        self.assertEqual(wall_behind(wall, ("carry", 1, 2)), wall)

    def test_next_to_changes(self):
        wall = ((0, 12, 0, 12, 0), ((1, 5), (2, 5), (4, 5)))
        due = right_changes(wall)
        for change in due:
            for thing in near(change):
                self.assertIs(is_change(wall, thing), any(is_exactly(thing, other) for other in due), thing)

    def test_what_is_no_change(self):
        wall = ((0, 2), ((1, 2),))
        for thing in ((), ("rail", 1, 2), ("wear", 2, 2), ("double", 2), ("double", True), ["double", 1], "double", None, ("double",),
                      ("double", 1, 2), ("wear", 1), ("wear", 1, 2, 3), ("wear", 1, True), ("wear", 1, (2,)), ({}, 1), ([], 1, 2),
                      (("double", 1),), ("wear", 3, 2), ("wear", 0, 2), ("carry", 1, 1), ("rail", [], {}), ("bring", None, None)):
            self.assertIs(is_change(wall, thing), False)
            for ask in (lambda: wall_behind(wall, thing), lambda: changed_cord(wall, thing, None), lambda: led_rule(wall, thing, None)):
                with self.assertRaises(BadChange) as caught:
                    ask()
                self.assertIs(caught.exception.thing, thing)


class ChangedCords(unittest.TestCase):
    def test_pair_by_pair(self):
        chance = random.Random(82)
        for many in (2, 3, 5, 9):
            for _ in range(6):
                wall = random_wall(chance, many, (0, 0, 4, 12), 0.2)
                for change in right_changes(wall):
                    for pairs in (0, 1, 5, 20):
                        cord = random_cord(chance, many, pairs, (-50, -2, -1, 1, 3, 50))
                        self.assertTrue(is_exactly(changed_cord(wall, change, cord), led_cord(wall, change, cord)))

    def test_each_word(self):
        wall = ((0, 0, 0, 4), ())
        cord = ((1, 2), (2, -2), (4, 5), (3, -1))
        for change, due in ((("rail", 1, 2), cord), (("wear", 4, 2), cord), (("bring", 1, 2), ((1, 2), (1, -2), (3, 5), (2, -1))),
                            (("double", 1), ((1, 1), (5, 1), (1, 1), (5, 1), (2, -2), (4, 5), (3, -1))),
                            (("double", 2), ((1, 2), (5, -1), (2, -1), (5, -1), (2, -1), (4, 5), (3, -1))),
                            (("carry", 2, 3), ((1, 2), (3, 1), (2, -2), (3, -1), (4, 5), (3, -1)))):
            self.assertEqual(changed_cord(wall, change, cord), due)

    def test_alike_cords_lead_to_alike_cords(self):
        chance = random.Random(83)
        for many in (2, 3, 4):
            for _ in range(8):
                wall = random_wall(chance, many, (0, 0, 4), 0.3)
                for change in right_changes(wall):
                    led = led_wall(wall, change)
                    cord = random_cord(chance, many, 6, (-5, -1, 1, 2))
                    behind = changed_cord(wall, change, cord)
                    for slide, _ in all_slides(wall, cord):
                        other = changed_cord(wall, change, slid(wall, cord, slide))
                        self.assertIs(are_alike(led, behind, other), True, (wall, change, cord, slide))
                    other = changed_cord(wall, change, form_of(wall, cord))
                    self.assertIs(are_alike(led, behind, other), True)

    def test_errors_in_their_order(self):
        wall = ((0, 0), ())
        with self.assertRaises(BadChange):
            changed_cord(wall, ("rail", 2, 1), ((3, 1),))
        with self.assertRaises(BadCord) as caught:
            changed_cord(wall, ("rail", 1, 2), ((3, 1),))
        self.assertEqual(caught.exception.thing, ((3, 1),))
        with self.assertRaises(BadChange):
            led_rule(wall, ("rail", 1, 2), ())
        with self.assertRaises(BadRule) as caught:
            led_rule(wall, ("double", 1), ((3,),))
        self.assertEqual(caught.exception.thing, ((3,),))


class LedRules(unittest.TestCase):
    def test_any_rule(self):
        for wall in (((0, 0, 0), ()), ((0, 0, 2), ((1, 2),))):
            for rule in rules_of(3):
                for change in right_changes(wall):
                    if change[0] == "double":
                        due = set(rule) | {tuple(sorted({*pegs, 4} - {change[1]})) for pegs in rule if change[1] in pegs}
                        self.assertTrue(is_exactly(led_rule(wall, change, rule), tuple(sorted(due))))
                    elif change[0] == "carry":
                        self.assertTrue(is_exactly(led_rule(wall, change, rule), rule))
                    else:
                        with self.assertRaises(BadChange) as caught:
                            led_rule(wall, change, rule)
                        self.assertIs(caught.exception.thing, change)

    def test_rules_of_changed_cords(self):
        chance = random.Random(84)
        for many in (2, 3, 4):
            for _ in range(10):
                wall = random_wall(chance, many, (0, 0, 3), 0.3)
                rule = random_rule(chance, many, 3, 3, lambda pegs: joined(wall, pegs))
                for change in right_changes(wall):
                    if change[0] in ("double", "carry"):
                        cord = other_cord_for(wall, rule, chance)
                        self.assertEqual(rule_of(led_wall(wall, change), changed_cord(wall, change, cord)),
                                         led_rule(wall, change, rule))

    def test_small_cords(self):
        for wall in (((0, 0), ()), ((0, 0, 0), ((1, 3),))):
            for cord in cords_of((1, 2), (-1, 2), 4):
                for change in right_changes(wall):
                    if change[0] in ("double", "carry"):
                        self.assertEqual(rule_of(led_wall(wall, change), changed_cord(wall, change, cord)),
                                         led_rule(wall, change, rule_of(wall, cord)))
