import itertools
import random
import unittest

from pulledpegs.cords import back, is_cord
from pulledpegs.errors import BadRule, BadTable, BadWall, NotOnWall
from pulledpegs.pulled import does_keep
from pulledpegs.rules import both, either, rule_of
from pulledpegs.wishes import (all_rules, cord_for, fewest_pairs, has_cord, judge_both, judge_table, judge_wish, many_rules,
                               table_holds, table_of, wish_holds)
from tests.near import is_exactly, near
from tests.search import cords_of, turned_about
from tests.sets import (all_sets, has_cord_by_sets, joined, kept_by, least_of, random_rule, random_wall, rules_of, subsets,
                        table_by_sets, walls_of, within)
from tests.test_pulled import random_cord

FREE = ((0, 0, 0), ())
WALLS = [FREE, ((2, 0, 3), ((1, 3),)), ((0, 2, 2), ((1, 2), (2, 3))), ((2, 2, 2), ((1, 2), (1, 3), (2, 3)))]


def is_parted_by_hand(wall, rule, thing):
    """Whether a tuple ("parted", pegs, lot) of right kinds is right."""
    _, pegs, lot = thing
    rest = set(pegs) - set(lot)
    return pegs in rule and bool(lot) and bool(rest) and within(lot, pegs) and all(
        (min(one, other), max(one, other)) in wall[1] for one in lot for other in rest)


def swapped(one, other):
    return one + other + turned_about(one) + turned_about(other)


def other_cord_for(wall, rule, chance):
    """A cord with the rule in another shape: nests in orders and with winds at random, led round, behind one another."""
    cord = ()
    for pegs in chance.sample(rule, len(rule)):
        order = [chance.choice(pegs)]
        while len(order) < len(pegs):
            tied = [peg for peg in pegs if peg not in order and
                    any((min(peg, other), max(peg, other)) not in wall[1] for other in order)]
            order.append(chance.choice(tied))
        made = ((order[0], chance.choice([1, -1, 31])),)
        for peg in order[1:]:
            made = swapped(((peg, chance.choice([1, -1, 61])),), made)
        lead = random_cord(chance, len(wall[0]), chance.randint(0, 4))
        cord += lead + made + turned_about(lead)
    return cord


class Wishes(unittest.TestCase):
    def check(self, wall, rule):
        due = has_cord_by_sets(wall, rule)
        self.assertIs(has_cord(wall, rule), due)
        told = judge_wish(wall, rule)
        self.assertIs(type(told), tuple)
        self.assertIs(wish_holds(wall, rule, told), True)
        if due:
            self.assertEqual((len(told), told[0]), (2, "cord"))
            for cord in (told[1], cord_for(wall, rule)):
                self.check_cord(wall, rule, cord)
        else:
            self.assertEqual((len(told), told[0]), (3, "parted"))
            self.assertTrue(is_parted_by_hand(wall, rule, told))
            with self.assertRaises(NotOnWall) as caught:
                cord_for(wall, rule)
            self.assertTrue(is_parted_by_hand(wall, rule, caught.exception.certificate))
            self.assertIs(wish_holds(wall, rule, caught.exception.certificate), True)

    def check_cord(self, wall, rule, cord):
        self.assertIs(is_cord(wall, cord), True)
        self.assertEqual(rule_of(wall, cord), rule)
        self.assertEqual([pegs for pegs in all_sets(len(wall[0])) if does_keep(wall, cord, pegs)],
                         kept_by(len(wall[0]), rule))
        self.assertIs(wish_holds(wall, rule, ("cord", cord)), True)

    def test_all_rules_of_three_pegs(self):
        for wall in walls_of(3, (0, 2)):
            for rule in rules_of(3):
                self.check(wall, rule)

    def test_rules_at_random(self):
        chance = random.Random(61)
        for many in (4, 5, 6):
            for _ in range(25):
                wall = random_wall(chance, many)
                self.check(wall, random_rule(chance, many, 4, 4))
                self.check(wall, random_rule(chance, many, 4, 4, lambda pegs: joined(wall, pegs)))

    def test_the_rule_without_least_sets(self):
        for wall in WALLS:
            self.assertIs(has_cord(wall, ()), True)
            self.check(wall, ())
            self.assertEqual(fewest_pairs(wall, ()), 0)
            self.assertIs(wish_holds(wall, (), ("cord", ((1, 1), (1, -1)))), True)
            self.assertIs(wish_holds(wall, (), ("cord", ((1, 1),))), False)

    def test_every_parted_certificate(self):
        for wall in WALLS + [((0, 0, 0, 0), ((1, 2), (1, 4), (2, 3), (3, 4)))]:
            many = len(wall[0])
            for rule in rules_of(3) + [((1, 2, 3, 4),), ((1, 3), (2, 4)), ((1, 2), (3, 4))]:
                if many == 3 and any(4 in pegs for pegs in rule):
                    continue
                for pegs, lot in itertools.product(all_sets(many), repeat=2):
                    thing = ("parted", pegs, lot)
                    self.assertIs(wish_holds(wall, rule, thing), is_parted_by_hand(wall, rule, thing), (wall, rule, thing))

    def test_every_cord_with_the_rule(self):
        for wall in WALLS:
            for cord in cords_of((1, 2, 3), (-1, 2), 4):
                rule = rule_of(wall, cord)
                self.assertIs(wish_holds(wall, rule, ("cord", cord)), True)
                for other in ((), ((1,),), ((2, 3),), ((1, 2),), ((1, 2, 3),), ((1,), (2,))):
                    self.assertIs(wish_holds(wall, other, ("cord", cord)), other == rule)

    def test_cords_of_many_pairs(self):
        chance = random.Random(62)
        for many in (4, 5, 7):
            for _ in range(12):
                wall = random_wall(chance, many)
                rule = random_rule(chance, many, 6, 4, lambda pegs: joined(wall, pegs))
                for _ in range(4):
                    cord = other_cord_for(wall, rule, chance)
                    self.assertIs(wish_holds(wall, rule, ("cord", cord)), True)
                    self.assertIs(wish_holds(wall, rule, ("cord", back(wall, cord))), True)
                    bad = cord + ((chance.randint(1, many), 1),)
                    self.assertIs(wish_holds(wall, rule, ("cord", bad)), rule_of(wall, bad) == rule)
                    for pegs in rule:
                        fewer = tuple(other for other in rule if other != pegs)
                        self.assertIs(wish_holds(wall, fewer, ("cord", cord)), False)

    def test_next_to_right_certificates(self):
        railed = ((0, 2, 0), ((1, 3), (2, 3)))
        for wall, rule, right in ((FREE, ((1, 2),), ("cord", ((1, 1), (2, 1), (1, -1), (2, -1)))),
                                  (railed, ((1, 2, 3),), ("parted", (1, 2, 3), (3,))),
                                  (railed, ((1, 3), (2, 3)), ("parted", (1, 3), (1,)))):
            self.assertIs(wish_holds(wall, rule, right), True)
            for thing in near(right):
                self.assertIs(wish_holds(wall, rule, thing), self.is_right(wall, rule, thing), thing)

    def is_right(self, wall, rule, thing):
        if not (isinstance(thing, tuple) and thing and isinstance(thing[0], str)):
            return False
        if thing[0] == "cord":
            return len(thing) == 2 and is_cord(wall, thing[1]) and rule_of(wall, thing[1]) == rule
        return thing[0] == "parted" and len(thing) == 3 and any(
            is_exactly(thing, ("parted", pegs, lot)) and is_parted_by_hand(wall, rule, thing)
            for pegs in all_sets(3) for lot in all_sets(3))

    def test_errors_in_their_order(self):
        railed = ((0, 0), ((1, 2),))
        for function in (has_cord, judge_wish, cord_for, fewest_pairs):
            with self.assertRaises(BadWall):
                function(((0, 0), ((2, 1),)), ((), ()))
            with self.assertRaises(BadRule) as caught:
                function(railed, ((1, 2), (2,)))
            self.assertEqual(caught.exception.thing, ((1, 2), (2,)))
        with self.assertRaises(NotOnWall) as caught:
            cord_for(railed, ((1, 2),))
        self.assertIn(caught.exception.certificate, (("parted", (1, 2), (1,)), ("parted", (1, 2), (2,))))

    def test_fewest_pairs(self):
        for wall in WALLS:
            for rule in rules_of(3):
                due = sum(1 if (peg,) in rule else 2 for peg in range(1, 4) if any(peg in pegs for pegs in rule))
                self.assertEqual(fewest_pairs(wall, rule), due)
        for wall in WALLS[:2]:
            for cord in cords_of((1, 2, 3), (1, -1), 4):
                self.assertLessEqual(fewest_pairs(wall, rule_of(wall, cord)), len(cord))


class Tables(unittest.TestCase):
    def right_others(self, wall, table):
        """All right certificates other than "cord"."""
        sets = all_sets(len(wall[0]))
        kept = [pegs for pegs in sets if table[sum(2 ** (peg - 1) for peg in pegs)]]
        found = [("bare",)] if () in kept else []
        found += [("more", one, other) for one in kept for other in sets if within(one, other) and other not in kept]
        if not found:
            rule = least_of(kept)
            found = [("parted", pegs, lot) for pegs in rule for lot in subsets(pegs)
                     if is_parted_by_hand(wall, rule, ("parted", pegs, lot))]
        return found

    def test_all_tables_of_three_pegs(self):
        for wall in WALLS:
            for table in itertools.product((False, True), repeat=8):
                self.check(wall, table)

    def test_small_tables(self):
        for wall in (((0,), ()), ((2,), ())):
            for table in itertools.product((False, True), repeat=2):
                self.check(wall, table)
        for wall in (((0, 0), ()), ((2, 0), ((1, 2),))):
            for table in itertools.product((False, True), repeat=4):
                self.check(wall, table)

    def test_greater_tables(self):
        chance = random.Random(63)
        for many in (4, 5):
            for _ in range(30):
                wall = random_wall(chance, many)
                table = list(table_by_sets(many, random_rule(chance, many, 4, 4)))
                self.check(wall, tuple(table))
                at = chance.randrange(2 ** many)
                table[at] = not table[at]
                self.check(wall, tuple(table))

    def check(self, wall, table):
        right = self.right_others(wall, table)
        told = judge_table(wall, table)
        self.assertIs(table_holds(wall, table, told), True)
        if right:
            self.assertTrue(any(is_exactly(told, one) for one in right))
            for one in right:
                self.assertIs(table_holds(wall, table, one), True)
        else:
            self.assertEqual((len(told), told[0]), (2, "cord"))
            self.assertEqual(table_by_sets(len(wall[0]), rule_of(wall, told[1])), table)
        for cord in ((), ((1, 1),)):
            due = not right and table_by_sets(len(wall[0]), rule_of(wall, cord)) == table
            self.assertIs(table_holds(wall, table, ("cord", cord)), due)

    def test_every_other_certificate_is_refused(self):
        sets = all_sets(3) + [(4,), (2, 1), (1, 1)]
        for wall, table in ((FREE, (False, True, True, False, False, True, True, True)), (FREE, (True,) * 8),
                            (WALLS[1], table_by_sets(3, ((1, 3),))), (FREE, table_by_sets(3, ((1, 3),))),
                            (WALLS[1], (True, False) * 4), (WALLS[2], table_by_sets(3, ((1, 2), (2, 3))))):
            right = self.right_others(wall, table)
            for thing in [("bare",), ("bare", ()), "bare", ["bare"], ()]:
                self.assertIs(table_holds(wall, table, thing), thing in right, thing)
            for word, (one, other) in itertools.product(("more", "parted", "cord"), itertools.product(sets, repeat=2)):
                self.assertIs(table_holds(wall, table, (word, one, other)), (word, one, other) in right)

    def test_next_to_right_certificates(self):
        for wall, table in ((FREE, (False, True, True, False, False, True, True, True)), (FREE, (True,) * 8),
                            (WALLS[1], table_by_sets(3, ((1, 3),)))):
            right = self.right_others(wall, table)
            for one in right:
                for thing in near(one):
                    due = any(is_exactly(thing, other) for other in right)
                    self.assertIs(table_holds(wall, table, thing), due, thing)

    def test_what_is_no_table(self):
        for wall in (((0,), ()), ((0, 2), ((1, 2),))):
            length = 2 ** len(wall[0])
            for table in ((), (False,) * (length - 1), (False,) * (length + 1), (0,) * length, (1,) * length, [False] * length,
                          (False,) * (length - 1) + (1,), (0,) + (False,) * (length - 1), (None,) * length, None, True, "0" * length,
                          (False,) * (2 * length), ((False,) * length,), {at: False for at in range(length)}):
                for ask in (lambda: judge_table(wall, table), lambda: table_holds(wall, table, ("bare",))):
                    with self.assertRaises(BadTable) as caught:
                        ask()
                    self.assertIs(caught.exception.thing, table)

    def test_table_of(self):
        for many in (1, 2, 3, 4):
            for rule in rules_of(many):
                self.assertTrue(is_exactly(table_of(many, rule), table_by_sets(many, rule)))
        with self.assertRaises(BadRule):
            table_of(2, ((3,),))
        self.assertEqual(len(table_of(10, ((10,),))), 1024)


class Both(unittest.TestCase):
    def test_all_pairs_of_rules(self):
        for wall in WALLS:
            for one, other in itertools.product(rules_of(3), repeat=2):
                first = [rule for rule in (one, other) if not has_cord_by_sets(wall, rule)]
                if first:
                    with self.assertRaises(NotOnWall) as caught:
                        judge_both(wall, one, other)
                    self.assertTrue(is_parted_by_hand(wall, first[0], caught.exception.certificate))
                    self.assertIs(wish_holds(wall, first[0], caught.exception.certificate), True)
                    continue
                rule = both(3, one, other)
                told = judge_both(wall, one, other)
                self.assertEqual(told[0], "cord" if has_cord_by_sets(wall, rule) else "parted")
                self.assertIs(wish_holds(wall, rule, told), True)
                if told[0] == "cord":
                    self.assertEqual(rule_of(wall, told[1]), rule)
                else:
                    self.assertTrue(is_parted_by_hand(wall, rule, told))
                self.assertIs(has_cord(wall, either(3, one, other)), True)

    def test_errors_in_their_order(self):
        railed, parted, wrong = ((0, 0, 0), ((1, 2),)), ((1, 2),), ((1,), (1, 2))
        with self.assertRaises(BadWall):
            judge_both(None, wrong, None)
        for one, other, due in ((wrong, None, wrong), (parted, wrong, wrong), (wrong, parted, wrong), (None, wrong, None)):
            with self.assertRaises(BadRule) as caught:
                judge_both(railed, one, other)
            self.assertEqual(caught.exception.thing, due)
        for one, other in ((parted, ()), ((), parted), (parted, parted)):
            with self.assertRaises(NotOnWall) as caught:
                judge_both(railed, one, other)
            self.assertIn(caught.exception.certificate[1:], (((1, 2), (1,)), ((1, 2), (2,))))


class HowMany(unittest.TestCase):
    def test_all_walls_of_few_pegs(self):
        for many in (1, 2, 3):
            for wall in walls_of(many, (0, 2)):
                due = sorted(rule for rule in rules_of(many) if has_cord_by_sets(wall, rule))
                self.assertTrue(is_exactly(all_rules(wall), tuple(due)))
                self.assertTrue(is_exactly(many_rules(wall), len(due)))

    def test_walls_of_four_pegs(self):
        rules = rules_of(4)
        for wall in walls_of(4, (3,)):
            self.assertEqual(many_rules(wall), len([rule for rule in rules if has_cord_by_sets(wall, rule)]))
        self.assertEqual(many_rules(((0,) * 4, ())), 167)
        self.assertEqual(many_rules(((0,) * 4, tuple(itertools.combinations(range(1, 5), 2)))), 16)

    def test_some_cord_has_each_rule_and_no_other(self):
        for wall in (((0, 0), ()), ((2, 0), ((1, 2),)), ((3, 2), ())):
            found = {rule_of(wall, cord) for cord in cords_of((1, 2), (-1, 1), 4)}
            self.assertEqual(tuple(sorted(found)), all_rules(wall))
