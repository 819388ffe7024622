import itertools
import random
import unittest

from pulledpegs.chains import cord_led, is_firm, lost_sets, new_rule, walls_led
from pulledpegs.errors import BadChange, BadCord, BadWall
from pulledpegs.pulled import does_keep
from pulledpegs.rules import rule_of
from pulledpegs.walls import is_right
from tests.lead import led_cord, led_wall, names_behind, right_changes
from tests.near import is_exactly
from tests.odd import ODD
from tests.search import cords_of
from tests.sets import all_sets, least_of, random_wall
from tests.test_pulled import random_cord

FREE = ((0, 0, 0), ())


def random_changes(chance, wall, many):
    """A row of changes with words at random, and the walls to which it leads."""
    walls, changes = [wall], []
    for _ in range(many):
        by_word = {}
        for change in sorted(right_changes(walls[-1])):
            by_word.setdefault(change[0], []).append(change)
        if not by_word:
            break
        changes.append(chance.choice(by_word[chance.choice(sorted(by_word))]))
        walls.append(led_wall(walls[-1], changes[-1]))
    return tuple(walls), tuple(changes)


class Rows(unittest.TestCase):
    def test_up_to_four_changes(self):
        chance = random.Random(101)
        for many in (1, 2, 3, 5, 7):
            for length in range(5):
                for _ in range(8):
                    wall = random_wall(chance, many, (0, 0, 12, 30), 0.1)
                    walls, changes = random_changes(chance, wall, length)
                    self.assertTrue(is_exactly(walls_led(wall, changes), walls))
                    cord = due = random_cord(chance, many, 10, (-5, -1, 1, 2, 5))
                    for met, change in zip(walls, changes):
                        due = led_cord(met, change, due)
                    self.assertTrue(is_exactly(cord_led(wall, changes, cord), due))

    def test_no_changes(self):
        self.assertEqual(walls_led(FREE, ()), (FREE,))
        self.assertEqual(cord_led(FREE, (), ((1, 1), (1, 1))), ((1, 1), (1, 1)))

    def test_the_first_change_that_is_none(self):
        wall = ((0, 0, 4), ())
        for changes, due in (((("rail", 1, 2), ("rail", 1, 2), None), ("rail", 1, 2)),
                             ((("bring", 1, 2), ("rail", 1, 3)), ("rail", 1, 3)),
                             ((("wear", 3, 2), ("wear", 3, 2)), ("wear", 3, 2)),
                             ((("wear", 1, 4), ("bring", 1, 3), ("double", 1)), ("double", 1)),
                             ((("double", 1), ("rail", 3, 4), ("rail", 4, 3)), ("rail", 4, 3)),
                             ((("rail", 1, 2), ("bring", 1, 2)), ("bring", 1, 2)), ((None,), None), (((),), ()),
                             ((("rail", 1, 2), ("wear", 1, True), 3), ("wear", 1, True))):
            for ask in (lambda: walls_led(wall, changes), lambda: cord_led(wall, changes, None)):
                with self.assertRaises(BadChange) as caught:
                    ask()
                self.assertTrue(is_exactly(caught.exception.thing, due))

    def test_what_is_no_tuple_of_changes(self):
        for changes in ODD + [[("rail", 1, 2)], {("rail", 1, 2): 1}, "rail"]:
            for ask in (lambda: walls_led(FREE, changes), lambda: cord_led(FREE, changes, ((4, 1),))):
                with self.assertRaises(BadChange) as caught:
                    ask()
                thing = caught.exception.thing
                self.assertIs(thing, changes[0] if isinstance(changes, tuple) else changes)

    def test_errors_in_their_order(self):
        with self.assertRaises(BadWall):
            cord_led(None, None, None)
        with self.assertRaises(BadWall):
            walls_led(((0,), ((1, 2),)), None)
        with self.assertRaises(BadChange):
            cord_led(FREE, (("rail", 1, 2), ("rail", 1, 2)), None)
        for changes, cord in (((("bring", 1, 2),), ((4, 1),)), ((), None), ((("double", 1),), ((4, 1),))):
            with self.assertRaises(BadCord) as caught:
                cord_led(FREE, changes, cord)
            self.assertIs(caught.exception.thing, cord)
        self.assertEqual(cord_led(FREE, (("bring", 1, 2),), ((3, 1),)), ((2, 1),))


class Exactly(unittest.TestCase):
    def check(self, wall, change, cord):
        led, changed, names = led_wall(wall, change), led_cord(wall, change, cord), names_behind(wall, change)
        kept = [pegs for pegs in all_sets(len(led[0])) if does_keep(led, changed, pegs)]
        self.assertTrue(is_exactly(new_rule(wall, change, cord), least_of(kept)), (wall, change, cord))
        lost = tuple(pegs for pegs in rule_of(wall, cord) if tuple(sorted({names[peg] for peg in pegs})) not in kept)
        self.assertTrue(is_exactly(lost_sets(wall, change, cord), lost), (wall, change, cord))
        self.assertIs(is_firm(wall, change, cord), lost == ())
        return change[0], lost == ()

    def test_small_cords(self):
        for wall in (((0, 0), ()), ((4, 4), ()), ((2, 2), ())):
            changes = [change for change in right_changes(wall) if change[0] != "wear" or change[2] in (2, 3)]
            for cord in cords_of((1, 2), (-1, 2), 4):
                for change in changes:
                    self.check(wall, change, cord)

    def test_cords_at_random(self):
        chance = random.Random(102)
        seen = set()
        for many in (3, 4, 5):
            for _ in range(15):
                wall = random_wall(chance, many, (0, 0, 2, 4), chance.choice((0, 0.3)))
                half = random_cord(chance, many, 3, (-1, 1, 2))
                for cord in (half + half, random_cord(chance, many, 10, (-5, -1, 1, 4)), half[:1] + half[1:2] + half[:1]):
                    for change in right_changes(wall):
                        if change[0] != "wear" or change[2] in (2, 3, 4):
                            seen.add(self.check(wall, change, cord))
        # A doubled peg keeps by itself what it kept, and what is led round keeps where it kept.
        self.assertEqual(seen, {(word, True) for word in ("rail", "wear", "bring", "double", "carry")} |
                         {(word, False) for word in ("rail", "wear", "bring")})

    def test_swaps_lost(self):
        swap = ((1, 1), (2, 1), (1, -1), (2, -1))
        for change, lost in ((("rail", 1, 2), ((1, 2),)), (("bring", 1, 2), ((1, 2),)), (("rail", 1, 3), ()), (("wear", 1, 2), ()),
                             (("double", 1), ()), (("carry", 1, 2), ()), (("bring", 1, 3), ())):
            self.assertEqual(lost_sets(FREE, change, swap), lost)
            self.assertIs(is_firm(FREE, change, swap), lost == ())
        self.assertEqual(lost_sets(FREE, ("bring", 1, 2), ((1, 1), (2, -1))), ((1,), (2,)))
        self.assertEqual(new_rule(FREE, ("bring", 1, 2), ((1, 1), (2, -1))), ())
        self.assertEqual(lost_sets(FREE, ("wear", 3, 2), ((3, 2), (1, 1))), ((3,),))

    def test_errors_in_their_order(self):
        for function in (new_rule, lost_sets, is_firm):
            with self.assertRaises(BadWall):
                function(None, None, None)
            for change in (None, (), ("rail", 2, 1), ("wear", 1, True), ["double", 1]):
                with self.assertRaises(BadChange) as caught:
                    function(FREE, change, None)
                self.assertIs(caught.exception.thing, change)
            for change, cord in itertools.product((("bring", 1, 2), ("double", 1)), (None, ((4, 1),), [(1, 1)], ((1, 0),))):
                with self.assertRaises(BadCord) as caught:
                    function(FREE, change, cord)
                self.assertIs(caught.exception.thing, cord)

    def test_walls_stay_right(self):
        for wall in (FREE, ((0, 2, 0), ((1, 3),))):
            for change in right_changes(wall):
                self.assertIs(is_right(walls_led(wall, (change,))[1]), True)
