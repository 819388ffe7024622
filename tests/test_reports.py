import itertools
import random
import unittest

from pulledpegs.errors import BadReports, BadSet, BadWall, Quarrel
from pulledpegs.reports import (are_reports, judge_reports, judge_sure, many_fitting, open_sets, reports_hold, settled_rule, state_of,
                                sure_holds)
from tests.near import is_exactly, near
from tests.odd import NO_REPORTS, ODD
from tests.sets import all_sets, has_cord_by_sets, joined, random_wall, rules_of, subsets, walls_of, within

FREE = ((0, 0, 0), ())
RAILED = ((0, 0, 0), ((1, 3), (2, 3)))


def keeps(rule, pegs):
    return any(within(least, pegs) for least in rule)


def parts_by_sets(wall, pegs):
    together = [part for part in subsets(pegs) if joined(wall, part)]
    return tuple(sorted(part for part in together if not any(within(part, more) and part != more for more in together)))


class Searched:
    """What the document says of reports, by all rules and all sets of a wall."""

    def __init__(self, wall, reports):
        self.wall, self.reports = wall, reports
        many = len(wall[0])
        self.kept = [pegs for pegs, seen in reports if seen]
        self.fallen = [pegs for pegs, seen in reports if not seen]
        self.rules = [rule for rule in rules_of(many) if has_cord_by_sets(wall, rule)
                      and all(keeps(rule, pegs) == seen for pegs, seen in reports)]

    def state(self, pegs):
        told = {keeps(rule, pegs) for rule in self.rules}
        return "open" if len(told) == 2 else "keeps" if told == {True} else "falls"

    def spent(self, part):
        return [pegs for pegs in self.fallen if within(part, pegs)]

    def falls(self, pegs):
        """All rows with a set that was not kept for each part of a set."""
        return list(itertools.product(*[self.spent(part) for part in parts_by_sets(self.wall, pegs)]))

    def certificates(self):
        quarrels = [("quarrel", pegs, falls) for pegs in self.kept for falls in self.falls(pegs)]
        return [("rule", rule) for rule in self.rules] + quarrels

    def sure_certificates(self, pegs):
        found = [("keeps", kept) for kept in self.kept
                 if all(self.spent(part) or within(part, pegs) for part in parts_by_sets(self.wall, kept))]
        found += [("falls", falls) for falls in self.falls(pegs)]
        keeping, falling = [[rule for rule in self.rules if keeps(rule, pegs) == kept] for kept in (True, False)]
        return found + [("open", one, other) for one in keeping for other in falling]


class Reports(unittest.TestCase):
    def test_all_rows_of_pairs(self):
        pairs = [(pegs, seen) for pegs in all_sets(2) + [(2, 1), (3,)] for seen in (False, True)]
        for length in range(4):
            for thing in itertools.product(pairs, repeat=length):
                right = all(pegs in all_sets(2) for pegs, _ in thing) and list(thing) == sorted(set(thing))
                self.assertIs(are_reports(((0, 0), ()), thing), right, thing)

    def test_told_reports(self):
        for thing, due in (((), True), ((((), False), ((), True)), True), ((((1,), False), ((1,), True)), True),
                           ((((1,), True), ((1,), False)), False), ((((1,), False), ((1,), False)), False), ((((1,), 0), ((1,), 1)), False),
                           ((((1,), 0),), False), ((((1,), 1),), False), ((((1, 2, 3), True),), True), ((((1, 4), True),), False),
                           ((((1, 3), True), ((1, 2), True)), False), ((((1, 2), True), ((1, 2, 3), False), ((1, 3), False)), True),
                           ([((1,), True)], False), ((((True,), True),), False), (([(1,), True],), False), ((((1,), True, True),), False)):
            self.assertIs(are_reports(FREE, thing), due, thing)

    def test_next_to_reports(self):
        right = (((1,), False), ((1, 2), False), ((1, 2), True))
        pairs = [(pegs, seen) for pegs in all_sets(4) for seen in (False, True)]
        for thing in near(right):
            due = isinstance(thing, tuple) and all(any(is_exactly(part, pair) for pair in pairs) for part in thing) and \
                list(thing) == sorted(set(thing))
            self.assertIs(are_reports(((0, 0, 0, 0), ()), thing), due, thing)

    def test_errors_in_their_order(self):
        wall = ((0, 2, 3, 0), ((1, 3), (2, 4)))
        quarrel = (((1, 2), False), ((1, 2), True))
        for ask in (judge_reports, many_fitting, open_sets, settled_rule, lambda wall, its: reports_hold(wall, its, None),
                    lambda wall, its: judge_sure(wall, its, None), lambda wall, its: sure_holds(wall, its, None, None),
                    lambda wall, its: state_of(wall, its, None)):
            with self.assertRaises(BadWall):
                ask(None, None)
            for thing in NO_REPORTS:
                with self.assertRaises(BadReports) as caught:
                    ask(wall, thing)
                self.assertIs(caught.exception.thing, thing)
        for ask in (open_sets, settled_rule, lambda wall, its: judge_sure(wall, its, None),
                    lambda wall, its: sure_holds(wall, its, None, None), lambda wall, its: state_of(wall, its, None)):
            with self.assertRaises(Quarrel) as caught:
                ask(wall, quarrel)
            self.assertIs(reports_hold(wall, quarrel, caught.exception.certificate), True)
            self.assertEqual(caught.exception.certificate[0], "quarrel")
        for pegs in (None, (5,), (2, 1), [1], (True,), "1", (0,)):
            for ask in (judge_sure, state_of, lambda *values: sure_holds(*values, None)):
                with self.assertRaises(BadSet) as caught:
                    ask(wall, quarrel[:1], pegs)
                self.assertIs(caught.exception.thing, pegs)


class Judged(unittest.TestCase):
    def check(self, wall, reports, every=False):
        searched = Searched(wall, reports)
        self.assertIs(are_reports(wall, reports), True)
        right = searched.certificates()
        self.assertEqual(len({thing[0] for thing in right}), 1, (wall, reports))
        told = judge_reports(wall, reports)
        self.assertTrue(any(is_exactly(told, thing) for thing in right), (wall, reports, told))
        for thing in right:
            self.assertIs(reports_hold(wall, reports, thing), True, (wall, reports, thing))
        self.assertTrue(is_exactly(many_fitting(wall, reports), len(searched.rules)))
        if every:
            for thing in self.all_certificates(wall):
                self.assertIs(reports_hold(wall, reports, thing), thing in right, (wall, reports, thing))
        if not searched.rules:
            self.check_quarrel(wall, reports, right)
            return "quarrel"
        return self.check_sure(wall, reports, searched, every)

    def all_certificates(self, wall):
        sets = all_sets(len(wall[0]))
        for rule in rules_of(len(wall[0])):
            yield ("rule", rule)
        for pegs in sets:
            for length in range(len(wall[0]) + 1):
                for falls in itertools.product(sets, repeat=length):
                    yield ("quarrel", pegs, falls)

    def check_quarrel(self, wall, reports, right):
        for ask in (open_sets, settled_rule, lambda *its: state_of(*its, ()), lambda *its: judge_sure(*its, ())):
            with self.assertRaises(Quarrel) as caught:
                ask(wall, reports)
            self.assertIn(caught.exception.certificate, right)

    def check_sure(self, wall, reports, searched, every):
        states = {pegs: searched.state(pegs) for pegs in all_sets(len(wall[0]))}
        for pegs, state in states.items():
            self.assertEqual(state_of(wall, reports, pegs), state, (wall, reports, pegs))
            right = searched.sure_certificates(pegs)
            self.assertEqual({thing[0] for thing in right}, {state}, (wall, reports, pegs))
            told = judge_sure(wall, reports, pegs)
            self.assertTrue(any(is_exactly(told, thing) for thing in right), (wall, reports, pegs, told))
            for thing in right[:60]:
                self.assertIs(sure_holds(wall, reports, pegs, thing), True, (wall, reports, pegs, thing))
            if every:
                for thing in self.all_sure_certificates(wall):
                    self.assertIs(sure_holds(wall, reports, pegs, thing), thing in right, (wall, reports, pegs, thing))
        opened = tuple(sorted(pegs for pegs in states if states[pegs] == "open"))
        self.assertTrue(is_exactly(open_sets(wall, reports), opened))
        self.assertEqual(opened == (), len(searched.rules) == 1)
        settled = searched.rules[0] if len(searched.rules) == 1 else None
        self.assertTrue(is_exactly(settled_rule(wall, reports), settled))
        return "settled" if opened == () else "open"

    def all_sure_certificates(self, wall):
        sets = all_sets(len(wall[0]))
        rules = rules_of(len(wall[0]))
        yield from (("keeps", pegs) for pegs in sets)
        for length in range(len(wall[0]) + 1):
            yield from (("falls", falls) for falls in itertools.product(sets, repeat=length))
        yield from (("open", one, other) for one in rules for other in rules)

    def test_all_reports_of_two_pegs(self):
        seen = set()
        for wall in walls_of(2, (0,)):
            pairs = [(pegs, kept) for pegs in sorted(all_sets(2)) for kept in (False, True)]
            for length in range(len(pairs) + 1):
                for reports in itertools.combinations(pairs, length):
                    seen.add(self.check(wall, reports, True))
        self.assertEqual(seen, {"quarrel", "open", "settled"})

    def test_few_reports_of_three_pegs(self):
        pairs = [(pegs, kept) for pegs in sorted(all_sets(3)) for kept in (False, True)]
        chance = random.Random(231)
        for wall in walls_of(3, (0,)):
            for length in range(3):
                for reports in itertools.combinations(pairs, length):
                    self.check(wall, reports)
            for _ in range(40):
                self.check(wall, tuple(sorted(chance.sample(pairs, chance.randint(3, 7)))))
        for wall in (FREE, RAILED):
            for _ in range(4):
                self.check(wall, tuple(sorted(chance.sample(pairs, 3))), True)

    def test_reports_of_four_pegs(self):
        chance = random.Random(232)
        sets = sorted(all_sets(4))
        seen = set()
        for _ in range(40):
            wall = random_wall(chance, 4, (0, 2), chance.choice((0, 0.3, 0.6)))
            rules = [rule for rule in rules_of(4) if has_cord_by_sets(wall, rule)]
            rule = chance.choice(rules)
            # Mostly reports on a picture that is there, so that they do not quarrel.
            wrong = chance.choice((0, 0, 0.2))
            reports = sorted((pegs, keeps(rule, pegs) != (chance.random() < wrong)) for pegs in chance.sample(sets, chance.randint(2, 12)))
            seen.add(self.check(wall, tuple(reports)))
        self.assertEqual(seen, {"quarrel", "open", "settled"})

    def test_next_to_certificates(self):
        for wall, reports in ((FREE, (((1, 2), False), ((1, 2, 3), True))), (RAILED, (((1, 2), False), ((1, 3), True), ((3,), False))),
                              (RAILED, (((1,), False), ((1, 3), True))), (FREE, (((), True),)), (FREE, ())):
            searched = Searched(wall, reports)
            right = searched.certificates()
            for thing in near(judge_reports(wall, reports)):
                due = any(is_exactly(thing, other) for other in right)
                self.assertIs(reports_hold(wall, reports, thing), due, thing)
            for thing in ODD:
                self.assertIs(reports_hold(wall, reports, thing), False)
            if searched.rules:
                for pegs in all_sets(3):
                    right = searched.sure_certificates(pegs)
                    for thing in near(judge_sure(wall, reports, pegs)):
                        due = any(is_exactly(thing, other) for other in right)
                        self.assertIs(sure_holds(wall, reports, pegs, thing), due, (pegs, thing))
                    for thing in ODD:
                        self.assertIs(sure_holds(wall, reports, pegs, thing), False)

    def test_told_ones(self):
        self.assertEqual(many_fitting(FREE, ()), 19)
        self.assertEqual(judge_reports(FREE, (((), True),)), ("quarrel", (), ()))
        self.assertEqual(settled_rule(FREE, (((1, 2, 3), False),)), ())
        self.assertEqual(state_of(FREE, (), ()), "falls")
        self.assertIs(sure_holds(FREE, (), (), ("falls", ())), True)
        both_ways = (((1, 2), False), ((1, 2), True))
        self.assertEqual(judge_reports(RAILED, both_ways), ("quarrel", (1, 2), ((1, 2),)))
        self.assertEqual(many_fitting(RAILED, both_ways), 0)
        # The parts (1, 2) and (3) of the set that was kept: one of them is spent, so the other one surely keeps.
        self.assertEqual(judge_sure(RAILED, (((1, 2), False), ((1, 2, 3), True)), (1, 3)), ("keeps", (1, 2, 3)))
