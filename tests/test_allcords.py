import itertools
import random
import unittest

from pulledpegs.allcords import after_change, change_holds, judge_change
from pulledpegs.changes import changed_cord
from pulledpegs.errors import BadChange, BadRule, BadSet, BadWall, NotOnWall
from pulledpegs.pulled import does_keep
from pulledpegs.rules import rule_of
from pulledpegs.wishes import wish_holds
from tests.lead import led_wall, names_behind, right_changes
from tests.near import is_exactly, near
from tests.search import cords_of
from tests.sets import all_sets, has_cord_by_sets, joined, random_rule, random_wall, rules_of, walls_of, within
from tests.test_wishes import other_cord_for

FREE = ((0, 0, 0), ())


def parts_by_hand(wall, pegs):
    return tuple(sorted(part for part in all_sets(len(wall[0])) if within(part, pegs) and joined(wall, part) and not any(
        within(part, more) and part != more and within(more, pegs) and joined(wall, more) for more in all_sets(len(wall[0])))))


def changes_to_judge(wall, worn=(2, 3, 6)):
    return sorted(change for change in right_changes(wall)
                  if change[0] in ("rail", "bring") or (change[0] == "wear" and change[2] in worn))


def told_by_words(wall, rule, change, kept):
    """The word, and all right certificates if it is "sure" or "never"; by the document's words."""
    word, i, last = change
    names = names_behind(wall, change)
    reach = tuple(peg for peg in names if names[peg] in kept)
    inside = [pegs for pegs in rule if within(pegs, reach)]
    if word == "rail":
        sure = [pegs for pegs in inside if not within((i, last), pegs)]
        parts = parts_by_hand(led_wall(wall, change), reach)
        never = not any(within(pegs, part) for part in parts for pegs in rule)
    elif word == "wear":
        sure = [pegs for pegs in inside if i not in pegs]
        parts = parts_by_hand(led_wall(wall, change), reach)
        never = not inside
    else:
        sure = [pegs for pegs in inside if i not in pegs and last not in pegs]
        if i in kept and ((i,) in rule) != ((last,) in rule):
            sure += [pegs for pegs in ((i,), (last,)) if pegs in rule]
        parts = parts_by_hand(wall, reach)
        alone = not any(joined(wall, tuple(sorted((i, peg)))) for peg in reach if peg not in (i, last))
        two = inside == [(i, last)] or (inside == [(i,), (last,)] and wall[0][i - 1] == 2)
        never = not inside or (alone and two)
    if sure:
        return "sure", [("sure", pegs) for pegs in sure]
    if never:
        return "never", [("never", parts)]
    return "either", []


class AllCords(unittest.TestCase):
    def check(self, wall, rule, change, kept):
        word, right = told_by_words(wall, rule, change, kept)
        self.assertEqual(after_change(wall, rule, change, kept), word, (wall, rule, change, kept))
        told = judge_change(wall, rule, change, kept)
        self.assertIs(change_holds(wall, rule, change, kept, told), True)
        for thing in right:
            self.assertIs(change_holds(wall, rule, change, kept, thing), True)
        if word == "either":
            self.check_cords(wall, rule, change, kept, told)
        else:
            self.assertTrue(any(is_exactly(told, thing) for thing in right))
        return word, right

    def check_cords(self, wall, rule, change, kept, told):
        word, one, other = told
        self.assertEqual((type(told), word), (tuple, "either"))
        self.assertEqual((rule_of(wall, one), rule_of(wall, other)), (rule, rule))
        led = led_wall(wall, change)
        self.assertIs(does_keep(led, changed_cord(wall, change, one), kept), True)
        self.assertIs(does_keep(led, changed_cord(wall, change, other), kept), False)

    def test_all_rules_of_two_pegs(self):
        for wall in walls_of(2, (0, 2, 3, 12)):
            for change in changes_to_judge(wall, range(2, 31)):
                for rule in rules_of(2):
                    if has_cord_by_sets(wall, rule):
                        for kept in all_sets(len(led_wall(wall, change)[0])):
                            self.check(wall, rule, change, kept)

    def test_all_rules_of_three_pegs(self):
        for wall in walls_of(3, (0, 2)):
            for change in changes_to_judge(wall, (2,)):
                for rule in rules_of(3):
                    if has_cord_by_sets(wall, rule):
                        for kept in all_sets(len(led_wall(wall, change)[0])):
                            self.check(wall, rule, change, kept)

    def test_greater_walls(self):
        chance = random.Random(91)
        seen = set()
        for many in (4, 5, 6, 7):
            for _ in range(12):
                wall = random_wall(chance, many, (0, 0, 2, 12), chance.choice((0, 0.2, 0.4)))
                rule = random_rule(chance, many, chance.choice((1, 3, 6)), 4, lambda pegs: joined(wall, pegs))
                for change in changes_to_judge(wall):
                    sets = [kept for kept in all_sets(len(led_wall(wall, change)[0])) if len(kept) < 6]
                    for kept in chance.sample(sets, min(6, len(sets))):
                        word, _ = self.check(wall, rule, change, kept)
                        seen.add((change[0], word))
        self.assertEqual(len(seen), 9)

    def test_the_two_brought_together(self):
        for slip in (0, 2, 3):
            for rails in ((), ((1, 3), (2, 3)), ((3, 4),), ((1, 3), (1, 4), (2, 3), (2, 4))):
                wall = ((slip, slip, 0, 2), rails)
                for rule in rules_of(3) + [((1, 2), (3, 4)), ((1,), (2, 4)), ((1,), (2,), (3, 4)), ((1, 4), (2, 3)),
                                           ((1, 2, 3), (1, 2, 4)), ((1, 3, 4),), ((1, 2, 3, 4),), ((2, 4), (3,))]:
                    if has_cord_by_sets(wall, rule):
                        for kept in all_sets(3):
                            self.check(wall, rule, ("bring", 1, 2), kept)

    def test_a_part_beside_the_one_that_keeps(self):
        # Behind the rail between 2 and 3, the peg 1 is a part by itself.
        wall = ((0, 0, 0, 0, 2), ((1, 2), (1, 3), (1, 4), (1, 5)))
        for rule in (((2, 3),), ((2, 3, 5),), ((2, 3, 4), (2, 3, 5)), ((2, 3), (4, 5))):
            for kept in all_sets(5):
                for change in (("rail", 2, 3), ("rail", 3, 4), ("bring", 2, 3), ("wear", 3, 2)):
                    if change[0] != "bring" or 5 not in kept:
                        self.check(wall, rule, change, kept)

    def grouped_cords(self, wall, pegs, winds, most):
        by_rule = {}
        for cord in cords_of(pegs, winds, most):
            by_rule.setdefault(rule_of(wall, cord), []).append(cord)
        return by_rule

    def test_against_all_small_cords(self):
        for wall in (((0, 0), ()), ((2, 2), ()), ((4, 4), ()), ((4, 0), ()), ((0, 0), ((1, 2),))):
            for rule, cords in self.grouped_cords(wall, (1, 2), (-2, 1, 2), 4).items():
                for change in changes_to_judge(wall, (2, 3)):
                    self.check_against(wall, rule, change, cords)
        for wall in (FREE, ((0, 0, 2), ((1, 3), (2, 3)))):
            for rule, cords in self.grouped_cords(wall, (1, 2, 3), (-1, 1), 4).items():
                for change in changes_to_judge(wall, (2,)):
                    self.check_against(wall, rule, change, cords[:30])

    def check_against(self, wall, rule, change, cords):
        led = led_wall(wall, change)
        for kept in all_sets(len(led[0])):
            word = after_change(wall, rule, change, kept)
            keep, fall = [], []
            for cord in cords:
                (keep if does_keep(led, changed_cord(wall, change, cord), kept) else fall).append(cord)
            if keep and fall:
                self.assertEqual(word, "either")
            if word != "either":
                self.assertEqual(keep if word == "never" else fall, [])
            for one, other in itertools.product(cords[:2] + keep[:2], cords[-2:] + fall[:2]):
                self.assertIs(change_holds(wall, rule, change, kept, ("either", one, other)), one in keep and other in fall)

    def test_sure_and_never_against_cords_at_random(self):
        chance = random.Random(92)
        for many in (3, 4, 5, 6):
            for _ in range(5):
                wall = random_wall(chance, many, (0, 0, 2, 12), 0.25)
                rule = random_rule(chance, many, 4, 3, lambda pegs: joined(wall, pegs))
                cords = [other_cord_for(wall, rule, chance) for _ in range(3)]
                for change in changes_to_judge(wall):
                    led = led_wall(wall, change)
                    for kept in chance.sample(all_sets(len(led[0])), 3):
                        if len(kept) < 6:
                            self.check_at_random(wall, rule, change, kept, cords)

    def check_at_random(self, wall, rule, change, kept, cords):
        led = led_wall(wall, change)
        keep = [cord for cord in cords if does_keep(led, changed_cord(wall, change, cord), kept)]
        fall = [cord for cord in cords if cord not in keep]
        word = after_change(wall, rule, change, kept)
        self.assertEqual(word == "sure" and fall, word == "sure" and [])
        self.assertEqual(word == "never" and keep, word == "never" and [])
        for one, other in itertools.product(cords, repeat=2):
            self.assertIs(change_holds(wall, rule, change, kept, ("either", one, other)), one in keep and other in fall)


class Certificates(unittest.TestCase):
    def test_every_sure_and_never_and_no_other(self):
        for wall in (FREE, ((2, 2, 0), ()), ((4, 4, 0), ((1, 3), (2, 3))), ((0, 0, 0), ((1, 3),))):
            for change in changes_to_judge(wall, (2,)):
                sets = all_sets(len(led_wall(wall, change)[0]))
                for rule in rules_of(3):
                    if not has_cord_by_sets(wall, rule):
                        continue
                    for kept in sets:
                        _, right = told_by_words(wall, rule, change, kept)
                        self.check(wall, rule, change, kept, right)

    def check(self, wall, rule, change, kept, right):
        for pegs in all_sets(3):
            self.assertIs(change_holds(wall, rule, change, kept, ("sure", pegs)), ("sure", pegs) in right)
        for parts in ((), ((1,),), ((1, 2),), ((1,), (2,)), ((1,), (2, 3)), ((1, 2, 3),), ((1, 3), (2,)), ((1,), (2,), (3,)),
                      ((2,), (3,)), ((3,),), ((1, 2), (3,)), ((2,),)):
            self.assertIs(change_holds(wall, rule, change, kept, ("never", parts)), ("never", parts) in right)
        for thing in (("either", (), ()), ("sure",), ("never",), ("either",), None, (), "never", ["never", ()], ("sure", None),
                      ("never", None), ("either", None, None)):
            self.assertIs(change_holds(wall, rule, change, kept, thing), False)

    def test_next_to_right_ones(self):
        for wall, rule, change, kept in ((FREE, ((1, 2),), ("rail", 1, 2), (1, 2)), (FREE, ((1, 2), (3,)), ("rail", 1, 2), (1, 3)),
                                         (FREE, ((1, 2), (2, 3)), ("wear", 1, 3), (2, 3)), (((2, 2), ()), ((1,), (2,)), ("bring", 1, 2), (1,)),
                                         (FREE, ((1,), (2, 3)), ("bring", 1, 2), (1, 2))):
            word, right = told_by_words(wall, rule, change, kept)
            for one in right:
                self.assertIs(change_holds(wall, rule, change, kept, one), True)
                for thing in near(one):
                    due = any(is_exactly(thing, other) for other in right)
                    self.assertIs(change_holds(wall, rule, change, kept, thing), due, thing)

    def test_next_to_either(self):
        wall, rule, change, kept = ((0, 0), ()), ((1,),), ("wear", 1, 2), (1,)
        one, other = ((1, 1),), ((1, 2),)
        self.assertIs(change_holds(wall, rule, change, kept, ("either", one, other)), True)
        for thing in near(("either", one, other)):
            self.assertIs(change_holds(wall, rule, change, kept, thing), self.is_right(thing), thing)
        for pair, due in (((one, one), False), ((other, other), False), ((other, one), False), ((((1, 5),), ((1, -4),)), True),
                          ((((2, 1), (1, 1), (2, -1)), ((1, 1), (1, 1))), True), ((((1, 1), (2, 1)), other), False),
                          ((one, ()), False), ((one, ((1, 2), (2, 2))), False)):
            self.assertIs(change_holds(wall, rule, change, kept, ("either",) + pair), due)

    def is_right(self, thing):
        if not (isinstance(thing, tuple) and len(thing) == 3 and is_exactly(thing[0], "either")):
            return False
        for cord in thing[1:]:
            if not (isinstance(cord, tuple) and cord and all(isinstance(pair, tuple) and len(pair) == 2 for pair in cord)):
                return False
            if not all(type(peg) is int and type(winds) is int and peg == 1 and winds for peg, winds in cord):
                return False
        first, second = (sum(winds for _, winds in cord) for cord in thing[1:])
        return first % 2 == 1 and second % 2 == 0 and second != 0

    def test_errors_in_their_order(self):
        railed = ((0, 0, 0), ((1, 2),))
        no_rule, parted, change, double, no_set = ((1,), (1, 2)), ((1, 2),), ("rail", 1, 3), ("double", 1), (2, 1)
        for function, rest in ((judge_change, ()), (change_holds, (None,)), (after_change, ())):
            for error, values, due in ((BadWall, (None, no_rule, double, no_set), None),
                                       (BadRule, (railed, no_rule, double, no_set), no_rule),
                                       (BadRule, (railed, None, change, ()), None),
                                       (BadChange, (railed, ((1,),), double, no_set), double),
                                       (BadChange, (railed, (), ("carry", 1, 3), ()), ("carry", 1, 3)),
                                       (BadChange, (railed, (), ("rail", 1, 2), no_set), ("rail", 1, 2)),
                                       (BadChange, (railed, (), None, no_set), None),
                                       (BadSet, (railed, ((1,),), change, no_set), no_set),
                                       (BadSet, (railed, (), change, (4,)), (4,)),
                                       (BadSet, (FREE, (), ("bring", 1, 3), (3,)), (3,))):
                with self.assertRaises(error) as caught:
                    function(*values, *rest)
                self.assertIs(type(caught.exception), error)
                self.assertEqual(caught.exception.thing, due)
            for values in ((railed, parted, double, no_set), (railed, parted, change, ()), (railed, ((1, 2), (3,)), change, (1,))):
                with self.assertRaises(NotOnWall) as caught:
                    function(*values, *rest)
                self.assertIs(wish_holds(values[0], values[1], caught.exception.certificate), True)
                self.assertEqual(caught.exception.certificate[0], "parted")
