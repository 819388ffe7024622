import functools
import itertools
import math
import random
import unittest

from pulledpegs.errors import BadNumber, BadRule, BadSet
from pulledpegs.orders import earliest, fall_times, judge_turn, latest, share_of, turn_holds
from tests.near import is_exactly, near
from tests.odd import ODD
from tests.sets import all_sets, random_rule, rules_of, within


def keeps(rule, pegs):
    return any(within(least, pegs) for least in rule)


def rules_to_try():
    chance = random.Random(221)
    for many in (1, 2, 3):
        for rule in rules_of(many):
            yield many, rule
    for many in (4, 5):
        for most in (1, 3, 8):
            for _ in range(4):
                yield many, random_rule(chance, many, most, many)
    for rule in ((), ((1,),), ((1, 2), (3, 4), (5, 6)), random_rule(chance, 6, 6, 4)):
        yield 6, rule


class Times(unittest.TestCase):
    def test_all_orders(self):
        for many, rule in rules_to_try():
            times, shares = [0] * (many + 1), [0] * (many + 1)
            kept = {pegs: keeps(rule, pegs) for pegs in all_sets(many)}
            for order in itertools.permutations(range(1, many + 1)):
                pulls = 0
                while kept[tuple(sorted(order[pulls:]))]:
                    pulls += 1
                times[pulls] += 1
                if pulls > 0:
                    shares[order[pulls - 1]] += 1
            self.assertTrue(is_exactly(fall_times(many, rule), tuple(times)), (many, rule))
            self.assertEqual([share_of(many, rule, peg) for peg in range(1, many + 1)], shares[1:], (many, rule))
            self.assertEqual(sum(fall_times(many, rule)), math.factorial(many))
            if rule:
                self.assertEqual(sum(shares), math.factorial(many))
            met = [pulls for pulls in range(many + 1) if times[pulls]]
            self.assertTrue(is_exactly(earliest(many, rule), met[0]), (many, rule))
            self.assertTrue(is_exactly(latest(many, rule), met[-1]), (many, rule))
            for peg in range(1, many + 1):
                if not any(peg in pegs for pegs in rule):
                    self.assertTrue(is_exactly(share_of(many, rule, peg), 0))

    def test_the_rule_without_least_sets(self):
        for many in range(1, 11):
            self.assertEqual(fall_times(many, ()), (math.factorial(many),) + (0,) * many)
            self.assertEqual([earliest(many, ()), latest(many, ())], [0, 0])
            self.assertEqual([share_of(many, (), peg) for peg in range(1, many + 1)], [0] * many)

    def test_one_least_set(self):
        for many in range(1, 11):
            for size in range(1, many + 1):
                rule = (tuple(range(1, size + 1)),)
                self.assertEqual([earliest(many, rule), latest(many, rule)], [1, many - size + 1])
                self.assertEqual(share_of(many, rule, 1) * size, math.factorial(many))

    def test_errors_in_their_order(self):
        rule = ((1, 2), (3,))
        for thing in (((1,), (1, 2)), ((4,),), None, [], ((),), ((True,),), ((2,), (1,))):
            for function in (fall_times, earliest, latest, lambda many, its: share_of(many, its, None),
                             lambda many, its: judge_turn(many, its, None), lambda many, its: turn_holds(many, its, None, None)):
                with self.assertRaises(BadRule) as caught:
                    function(3, thing)
                self.assertIs(caught.exception.thing, thing)
        for peg in (0, 4, True, False, -1, None, "1", (1,), [1], 10 ** 39):
            with self.assertRaises(BadNumber) as caught:
                share_of(3, rule, peg)
            self.assertIs(caught.exception.thing, peg)


def wins(rule, left):
    """Whether some way to play wins from a set, whatever the other one does; who lets it fall has lost."""
    @functools.lru_cache(None)
    def search(pegs):
        for peg in pegs:
            rest = tuple(other for other in pegs if other != peg)
            if keeps(rule, rest) and not search(rest):
                return True
        return False
    return search(left)


class Turns(unittest.TestCase):
    def check(self, many, rule, pegs):
        right = [peg for peg in pegs if keeps(rule, tuple(other for other in pegs if other != peg))
                 and not wins(rule, tuple(other for other in pegs if other != peg))]
        self.assertEqual(bool(right), wins(rule, pegs))
        certificates = [("win", peg) for peg in right] if right else [("lose",)]
        told = judge_turn(many, rule, pegs)
        self.assertTrue(any(is_exactly(told, thing) for thing in certificates), (rule, pegs))
        for thing in [("win", peg) for peg in range(-1, many + 2)] + [("lose",)]:
            self.assertIs(turn_holds(many, rule, pegs, thing), thing in certificates, (rule, pegs, thing))
        return told[0]

    def test_all_sets(self):
        words = set()
        for many, rule in rules_to_try():
            for pegs in all_sets(many):
                if keeps(rule, pegs):
                    words.add(self.check(many, rule, pegs))
        self.assertEqual(words, {"win", "lose"})

    def test_several_right_pegs(self):
        rule = ((1, 2), (3,))
        for peg, due in ((1, True), (2, True), (3, False)):
            self.assertIs(turn_holds(4, rule, (1, 2, 3, 4), ("win", peg)), due)
        self.assertIs(turn_holds(4, rule, (1, 2, 3, 4), ("lose",)), False)

    def test_wrong_certificates(self):
        rule = ((1, 2), (3,))
        for pegs in ((1, 2, 3), (1, 2), (1, 3), (3,)):
            told = judge_turn(3, rule, pegs)
            for thing in list(near(told)) + ODD + [("win",), ("lose", 1), ("win", True), ("win", [3]), ["win", 3], ("win", 3, 3), ("lost",),
                                                   ("lose", None), ("win", (3,)), "lose", ["lose"], ("win", "3"), ("win", None)]:
                right = isinstance(thing, tuple) and len(thing) == 2 and thing[0] == "win" and told[0] == "win" and \
                    type(thing[1]) is int and turn_holds(3, rule, pegs, thing)
                self.assertIs(turn_holds(3, rule, pegs, thing), right, (pegs, thing))

    def test_sets_that_are_not_kept(self):
        for pegs in ((), (1,), (2,), (2, 4), (2, 1), (3, 3), (5,), (0, 3), (True, 3), [3], None, 3, "3", (3, None)):
            for ask in (lambda: judge_turn(4, ((1, 2), (3,)), pegs), lambda: turn_holds(4, ((1, 2), (3,)), pegs, ("lose",))):
                with self.assertRaises(BadSet) as caught:
                    ask()
                self.assertIs(caught.exception.thing, pegs)
        for pegs in all_sets(3):
            with self.assertRaises(BadSet):
                judge_turn(3, (), pegs)
