import itertools
import random
import unittest

from pulledpegs.errors import BadRule, BadSet
from pulledpegs.pulled import does_keep
from pulledpegs.rules import (both, either, falling_sets, is_rule, judge_rule, keeps, kept_by_size, least_pulls, rule_holds,
                              rule_of)
from tests.near import is_exactly, near
from tests.search import cords_of
from tests.sets import all_sets, greatest_of, kept_by, least_of, others, random_rule, random_wall, rules_of, subsets
from tests.test_pulled import random_cord


class Rules(unittest.TestCase):
    def test_all_tuples_of_sets(self):
        for many in (1, 2, 3):
            due = set(rules_of(many))
            for length in range(4):
                for thing in itertools.product(all_sets(many), repeat=length):
                    self.assertIs(is_rule(many, thing), thing in due, thing)

    def test_how_many_rules(self):
        self.assertEqual([len(rules_of(many)) for many in (1, 2, 3, 4)], [2, 5, 19, 167])
        for many in (1, 2, 3, 4):
            for rule in rules_of(many):
                self.assertIs(is_rule(many, rule), True)
                self.assertIs(is_rule(10, rule), True)
                self.assertIs(is_rule(many - 1, rule), not any(many in pegs for pegs in rule))

    def test_no_rules(self):
        for thing in (((),), ((), (1,)), ((1,), ()), ((1,), (1, 2)), ((1, 2), (2,)), ((2,), (1,)), ((1,), (1,)), ((1, 2), (1, 2)),
                      ((4,),), ((1, 4),), ((0,),), ((2, 1),), ((True,),), ((1, True),), ([1],), [(1,)], ((1,), [2]), None, (1,),
                      ((1, 3), (1, 2)), ((1, 2), (1, 2, 3)), ((1, 2, 3), (2, 3)), ((2, 3), (1,)), ("1",), ((1,), None)):
            self.assertIs(is_rule(3, thing), False, thing)
        for thing in near(((1, 2), (2, 3))):
            due = isinstance(thing, tuple) and any(is_exactly(thing, rule) for rule in rules_of(4))
            self.assertIs(is_rule(4, thing), due, thing)

    def test_all_rules_of_few_pegs(self):
        for many in (1, 2, 3, 4):
            for rule in rules_of(many):
                self.check(many, rule)

    def test_rules_of_many_pegs(self):
        chance = random.Random(41)
        for many in (5, 7, 10):
            for most in (1, 6, 40):
                self.check(many, random_rule(chance, many, most, 5))

    def check(self, many, rule):
        sets = all_sets(many)
        kept = set(kept_by(many, rule))
        falling = greatest_of([pegs for pegs in sets if pegs not in kept])
        for pegs in sets:
            self.assertIs(keeps(many, rule, pegs), pegs in kept)
        self.assertTrue(is_exactly(falling_sets(many, rule), falling))
        self.assertTrue(is_exactly(least_pulls(many, rule), tuple(sorted(others(many, pegs) for pegs in falling))))
        sizes = tuple(len([pegs for pegs in kept if len(pegs) == size]) for size in range(many + 1))
        self.assertTrue(is_exactly(kept_by_size(many, rule), sizes))

    def test_least_pulls_are_the_least_that_let_it_fall(self):
        for rule in rules_of(3):
            pulls = least_of([pegs for pegs in all_sets(3) if not keeps(3, rule, others(3, pegs))])
            self.assertEqual(least_pulls(3, rule), pulls)
        self.assertEqual(least_pulls(3, ()), ((),))
        self.assertEqual(falling_sets(3, ()), ((1, 2, 3),))

    def test_either_and_both(self):
        for one, other in itertools.product(rules_of(3), repeat=2):
            self.check_two(3, one, other)
        chance = random.Random(42)
        for many in (4, 6, 10):
            for most in (2, 40):
                self.check_two(many, random_rule(chance, many, most, 4), random_rule(chance, many, most, 4))

    def check_two(self, many, one, other):
        first, second = set(kept_by(many, one)), set(kept_by(many, other))
        self.assertTrue(is_exactly(either(many, one, other), least_of_kept(many, first | second)))
        self.assertTrue(is_exactly(both(many, one, other), least_of_kept(many, first & second)))

    def test_errors_in_their_order(self):
        for function in (either, both):
            with self.assertRaises(BadRule) as caught:
                function(3, ((1,), (1, 2)), ((),))
            self.assertEqual(caught.exception.thing, ((1,), (1, 2)))
        with self.assertRaises(BadRule):
            keeps(3, ((4,),), (5,))
        with self.assertRaises(BadSet) as caught:
            keeps(3, ((3,),), (4,))
        self.assertEqual(caught.exception.thing, (4,))


def least_of_kept(many, kept):
    """As least_of, for sets with which all greater ones are kept."""
    return tuple(sorted(pegs for pegs in kept if not any(tuple(peg for peg in pegs if peg != out) in kept for out in pegs)))


class RulesOfCords(unittest.TestCase):
    def check(self, wall, cord):
        many = len(wall[0])
        kept = [pegs for pegs in all_sets(many) if does_keep(wall, cord, pegs)]
        falling = greatest_of([pegs for pegs in all_sets(many) if pegs not in kept])
        rule = least_of(kept)
        self.assertEqual(sorted(kept_by(many, rule)), sorted(kept))
        self.assertTrue(is_exactly(rule_of(wall, cord), rule))
        self.assertTrue(is_exactly(judge_rule(wall, cord), ("rule", rule, falling)))
        self.assertIs(rule_holds(wall, cord, ("rule", rule, falling)), True)
        return rule, falling

    def test_small_cords(self):
        for wall in (((0, 0, 0), ()), ((2, 3, 0), ((1, 3),)), ((2, 2, 2), ((1, 2), (1, 3), (2, 3)))):
            for cord in cords_of((1, 2, 3), (1, -1), 4):
                self.check(wall, cord)

    def test_cords_at_random(self):
        chance = random.Random(43)
        for many in (4, 5):
            for _ in range(40):
                self.check(random_wall(chance, many), random_cord(chance, many, chance.choice((3, 8, 24))))

    def test_next_to_the_certificate(self):
        for wall, cord in ((((0, 0), ()), ((1, 1), (2, 1), (1, -1), (2, -1))), (((2, 0, 0), ()), ((1, 1), (3, 1), (2, 2))),
                           (((2, 0, 0), ()), ()), (((2,), ()), ((1, 1),))):
            rule, falling = self.check(wall, cord)
            for thing in near(("rule", rule, falling)):
                self.assertIs(rule_holds(wall, cord, thing), False, thing)
            for one, other in itertools.product(rules_of(2), list(subsets(range(1, 3)))):
                self.assertIs(rule_holds(wall, cord, ("rule", one, (other,))), (one, (other,)) == (rule, falling))

    def test_no_cord_has_a_least_set_that_rails_part(self):
        wall = ((0, 0, 0), ((1, 2), (2, 3)))
        for cord in cords_of((1, 2, 3), (1, -1), 5):
            for pegs in rule_of(wall, cord):
                self.assertIn(pegs, ((1,), (2,), (3,), (1, 3)))
