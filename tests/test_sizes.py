"""At the greatest sizes of the limits, and somewhat beyond, an answer comes at once."""

import itertools
import random
import time
import unittest

from pulledpegs import allcords, chains, changes, cords, counts, nests, pulled, rounds, rules, walls, wishes

ALL_PEGS = tuple(range(1, 11))
ALL_RAILS = tuple(itertools.combinations(ALL_PEGS, 2))
AT_ONCE = 0.5

WALLS = [
    ((0,) * 10, ()), ((30,) * 10, ()), ((0,) * 10, ALL_RAILS), ((30,) * 10, ALL_RAILS), ((2,) * 10, ALL_RAILS[::2]),
    ((0, 30) * 5, ALL_RAILS[::3]), ((0,) * 10, tuple(rail for rail in ALL_RAILS if rail[0] + 1 != rail[1])),
]


def long_cords(chance):
    million = 10 ** 6
    yield tuple((peg, million) for peg in ALL_PEGS) * 4
    yield tuple((peg, -million) for peg in reversed(ALL_PEGS)) * 4
    yield ((1, million), (1, -million)) * 20
    yield ((1, million),) * 40
    half = tuple((chance.randint(1, 10), chance.choice((-million, million))) for _ in range(20))
    yield half + tuple((peg, -winds) for peg, winds in reversed(half))
    for _ in range(3):
        yield tuple((chance.randint(1, 10), chance.choice((-million, -1, 1, 7, million))) for _ in range(40))


class Timed(unittest.TestCase):
    def at_once(self, function, *values):
        began = time.perf_counter()
        result = function(*values)
        self.assertLess(time.perf_counter() - began, AT_ONCE, function)
        return result


class Sizes(Timed):
    def test_walls(self):
        for wall in WALLS:
            self.assertIs(self.at_once(walls.is_right, wall), True)
            self.assertIs(self.at_once(walls.is_set, wall, ALL_PEGS), True)
            parts = self.at_once(walls.parts_of, wall, ALL_PEGS)
            self.assertIs(self.at_once(walls.hangs_together, wall, ALL_PEGS), len(parts) == 1)
            self.assertEqual(self.at_once(walls.wall_of_text, self.at_once(walls.wall_text, wall)), wall)

    def test_cords(self):
        for wall in WALLS:
            for cord in long_cords(random.Random(8)):
                form = self.at_once(cords.form_of, wall, cord)
                self.assertLessEqual(len(form), 40)
                self.assertEqual(self.at_once(cords.form_of, wall, form), form)
                self.assertIs(self.at_once(cords.is_cord, wall, cord), True)
                self.assertGreaterEqual(self.at_once(cords.length_of, wall, cord), len(form))
                turned = self.at_once(cords.back, wall, cord)
                both = self.at_once(cords.behind, wall, cord, turned)
                self.assertEqual(self.at_once(cords.form_of, wall, both), ())
                swapped = self.at_once(cords.swap, wall, cord, cord)
                self.assertIs(self.at_once(cords.are_alike, wall, swapped, ()), True)
                told = self.at_once(cords.judge_alike, wall, cord, form)
                self.assertIs(self.at_once(cords.alike_holds, wall, cord, form, told), True)

    def test_rows_of_400_slides(self):
        for wall in (((2,) * 10, ALL_RAILS), ((0,) * 10, ALL_RAILS)):
            cord = tuple((peg, 1) for peg in ALL_PEGS) * 4
            form = cords.form_of(wall, cord)
            began = time.perf_counter()
            for at in range(400):
                peg = cord[at % 39][0]
                word = "past" if peg != cord[at % 39 + 1][0] else "join"
                if word == "past":
                    cord = cords.slid(wall, cord, (word, at % 39))
            self.assertLess(time.perf_counter() - began, 4 * AT_ONCE)
            self.assertEqual(cords.form_of(wall, cord), form)

    def test_rounds(self):
        chance = random.Random(9)
        million = 10 ** 6
        for wall in WALLS:
            for many in (6, 8):
                for _ in range(4):
                    one = tuple((peg, chance.choice((-million, 1, 7))) for peg in chance.sample(ALL_PEGS, many))
                    turn = chance.randrange(many)
                    for other in (one[turn:] + one[:turn], one[:-1], one[:-1] + ((one[-1][0], 3),)):
                        self.at_once(rounds.round_form, wall, other)
                        told = self.at_once(rounds.judge_round, wall, one, other)
                        self.assertIs(self.at_once(rounds.round_holds, wall, one, other, told), True)
                        self.assertIs(self.at_once(rounds.is_round, wall, one, other), told[0] == "cord")

    def test_long_certificates(self):
        for wall in WALLS:
            one = tuple((peg, 3) for peg in ALL_PEGS[:6])
            lead = one * 150
            self.assertIs(self.at_once(rounds.round_holds, wall, one, one, ("cord", lead)), True)
            other = one[3:] + one[:3]
            self.assertIs(self.at_once(rounds.round_holds, wall, other, one, ("cord", lead + one[:3])), True)

    def test_long_wrong_values(self):
        wall = WALLS[4]
        pairs = ((1, 1), (2, -1)) * 450
        for thing in (pairs, pairs + ((1, 0),), ((1, 2),) * 900, (0,) * 3000, "pegs" + " 0" * 900, " " * 2000):
            for ask in (walls.is_right, lambda value: walls.is_set(wall, value), lambda value: cords.is_cord(wall, value),
                        lambda value: cords.alike_holds(wall, (), ((1, 1),), ("forms", value, value)),
                        lambda value: rounds.round_holds(wall, (), ((1, 1),), ("forms", value, value)),
                        lambda value: rounds.round_holds(wall, (), ((1, 1),), ("cord", value))):
                self.at_once(ask, thing)


def wound(chance, many, pairs, winds=(-7, -1, 1, 2)):
    return tuple((chance.randint(1, many), chance.choice(winds)) for _ in range(pairs))


class SizesOfSets(Timed):
    def test_pulled(self):
        chance = random.Random(10)
        for wall in WALLS:
            for _ in range(5):
                half = wound(chance, 10, 15)
                turned = tuple((peg, -winds) for peg, winds in reversed(half))
                for cord in (half + turned, half + half, wound(chance, 10, 40)):
                    for kept in (ALL_PEGS, ALL_PEGS[::2], ()):
                        told = self.at_once(pulled.judge_keep, wall, cord, kept)
                        self.assertIs(self.at_once(pulled.keep_holds, wall, cord, kept, told), True)
                        self.assertIs(self.at_once(pulled.does_keep, wall, cord, kept), told[0] == "rest")
                    for pulls in (ALL_PEGS, ALL_PEGS[::-1]):
                        self.at_once(pulled.first_fall, wall, cord, pulls)

    def test_rules_of_cords(self):
        chance = random.Random(11)
        for wall in WALLS:
            for pairs in (24, 40):
                cord = wound(chance, 10, pairs)
                rule = self.at_once(rules.rule_of, wall, cord)
                told = self.at_once(rules.judge_rule, wall, cord)
                self.assertIs(self.at_once(rules.rule_holds, wall, cord, told), True)
                self.assertEqual(told[1], rule)

    def test_rules_of_ten_pegs(self):
        chance = random.Random(12)
        for size in (2, 3, 4, 5):
            sets = list(itertools.combinations(ALL_PEGS, size))
            one, other = (tuple(sorted(chance.sample(sets, 40))) for _ in range(2))
            self.assertIs(self.at_once(rules.is_rule, 10, one), True)
            self.assertIs(self.at_once(rules.keeps, 10, one, ALL_PEGS), True)
            for function in (rules.falling_sets, rules.least_pulls, rules.kept_by_size, wishes.table_of):
                self.at_once(function, 10, one)
            for function in (rules.either, rules.both):
                self.assertIs(rules.is_rule(10, self.at_once(function, 10, one, other)), True)

    def test_wishes(self):
        chance = random.Random(13)
        for wall in WALLS:
            for size in (3, 5):
                sets = [pegs for pegs in itertools.combinations(ALL_PEGS, size) if walls.hangs_together(wall, pegs)]
                rule = tuple(sorted(chance.sample(sets, min(12, len(sets)))))
                self.assertIs(self.at_once(wishes.has_cord, wall, rule), True)
                cord = self.at_once(wishes.cord_for, wall, rule)
                self.assertIs(self.at_once(wishes.wish_holds, wall, rule, ("cord", cord)), True)
                self.assertIs(self.at_once(wishes.wish_holds, wall, rule, ("cord", cord + ((1, 1),))), False)
                self.assertEqual(self.at_once(rules.rule_of, wall, cord), rule)
                self.at_once(wishes.fewest_pairs, wall, rule)
            one, other = (tuple(sorted(chance.sample(list(itertools.combinations(ALL_PEGS, 3)), 6))) for _ in range(2))
            if wishes.has_cord(wall, one) and wishes.has_cord(wall, other):
                told = self.at_once(wishes.judge_both, wall, one, other)
                self.assertIs(self.at_once(wishes.wish_holds, wall, rules.both(10, one, other), told), True)

    def test_cords_of_a_thousand_pairs_in_certificates(self):
        chance = random.Random(14)
        sets = tuple(itertools.combinations(ALL_PEGS, 5))
        for wall in WALLS:
            for rule in (tuple((peg,) for peg in ALL_PEGS), tuple(sorted(chance.sample(sets, 12))), ()):
                for cord in (wound(chance, 10, 1000), nests.nest(WALLS[0], ALL_PEGS[:9]), tuple((peg, 1) for peg in ALL_PEGS) * 100):
                    self.at_once(wishes.wish_holds, wall, rule, ("cord", cord))
                    if walls.hangs_together(wall, ALL_PEGS) and wishes.has_cord(wall, rule):
                        more = wishes.cord_for(wall, rule) + cord[:400]
                        self.at_once(wishes.wish_holds, wall, rule, ("cord", more))

    def test_tables_and_few_pegs(self):
        chance = random.Random(15)
        for many in (4, 5):
            for rails in ((), ALL_RAILS[:3]):
                wall = ((0,) * many, rails)
                for rule in chance.sample(wishes.all_rules(((0, 0, 0), ())), 8):
                    table = self.at_once(wishes.table_of, many, rule)
                    told = self.at_once(wishes.judge_table, wall, table)
                    self.assertIs(self.at_once(wishes.table_holds, wall, table, told), True)
                self.at_once(wishes.judge_table, wall, tuple(chance.choice((False, True)) for _ in range(2 ** many)))
                if many == 4:
                    self.at_once(wishes.many_rules, wall)

    def test_long_wrong_certificates(self):
        wall = WALLS[0]
        cord, rule = wound(random.Random(16), 10, 24), ((1, 2), (3,))
        table = wishes.table_of(5, rule)
        for thing in (((1, 1), (2, -1)) * 450, (("join", 0),) * 900, (("turn", 0),) * 900, ((1,),) * 900, (0,) * 3000):
            for word in ("slides", "rest", "rule", "cord", "parted", "more"):
                for told in ((word, thing), (word, thing, thing), thing):
                    self.at_once(pulled.keep_holds, wall, cord, ALL_PEGS, told)
                    self.at_once(rules.rule_holds, wall, cord, told)
                    self.at_once(wishes.wish_holds, wall, rule, told)
                    self.at_once(wishes.table_holds, ((0,) * 5, ()), table, told)
            self.at_once(rules.is_rule, 10, thing)
        self.at_once(rules.is_rule, 10, tuple(sorted(itertools.combinations(ALL_PEGS, 5))))


class SizesOfChanges(Timed):
    def test_counts(self):
        chance = random.Random(20)
        swap = ((1, 1), (2, 1), (1, -1), (2, -1))
        swapped = cords.swap(((0,) * 10, ()), swap, ((1, 2), (2, 1), (1, -2), (2, -1)))
        for cord in (swapped, wound(chance, 1, 16, (-20, 20)), wound(chance, 4, 16, (-20, -19, 20)), wound(chance, 10, 16, (-20, 20)),
                     wound(chance, 10, 24, (-30, 50))):
            for _ in range(5):
                for length in (8, 16):
                    row = tuple(chance.choice(cord)[0] for _ in range(length))
                    count = self.at_once(counts.count_of, cord, row)
                    self.assertIs(self.at_once(counts.row_holds, cord, ("row", row, count)), count != 0)
            for row in ((cord[0][0],) * 2900, tuple(peg for peg, _ in cord) * 120, (1, 2) * 1400):
                self.assertIs(self.at_once(counts.row_holds, cord, ("row", row, 10 ** 39)), False)
            self.at_once(counts.depth_of, cord)
            self.at_once(counts.judge_row, cord)
        for pegs in (1, 2, 4):
            cord = wound(chance, pegs, 16, (-20, 20))
            self.at_once(counts.counted_rows, cord, 4)
        self.assertEqual(self.at_once(counts.depth_of, swapped), 5)

    def test_changes_of_ten_pegs(self):
        chance = random.Random(21)
        for wall in WALLS + [((0,) * 9, ALL_RAILS[:4])]:
            many = len(wall[0])
            cord = wound(chance, many, 20, (-50, 50))
            for thing in [(word, i, j) for word in ("rail", "bring", "carry", "wear") for i in (1, 4, 9) for j in (2, 9, 10)] + \
                    [("double", i) for i in range(1, many + 1)]:
                if self.at_once(changes.is_change, wall, thing):
                    self.at_once(changes.wall_behind, wall, thing)
                    self.assertLessEqual(len(self.at_once(changes.changed_cord, wall, thing, cord)), 2000)

    def test_all_cords(self):
        chance = random.Random(22)
        for slips, rails in (((0,) * 7, ()), ((2,) * 7, ()), ((12,) * 7, ((6, 7),)), ((0,) * 7, ((1, 3), (2, 3), (5, 6)))):
            wall = (slips, rails)
            for size in (2, 4):
                sets = [pegs for pegs in itertools.combinations(range(1, 8), size) if walls.hangs_together(wall, pegs)]
                for change in (("rail", 1, 2), ("wear", 1, 2), ("wear", 1, 3), ("bring", 1, 2)):
                    if changes.is_change(wall, change):
                        for kept in chance.sample(list(itertools.combinations(range(1, 7), 5)), 3):
                            # With as many least sets within the reach as there can be.
                            near = [pegs for pegs in sets if set(pegs) <= {*kept, 1, 2}] + chance.sample(sets, 6)
                            self.judge(wall, tuple(sorted(dict.fromkeys(near[:6]))), change, kept)

    def judge(self, wall, rule, change, kept):
        told = self.at_once(allcords.judge_change, wall, rule, change, kept)
        self.assertIs(self.at_once(allcords.change_holds, wall, rule, change, kept, told), True)
        self.assertEqual(self.at_once(allcords.after_change, wall, rule, change, kept), told[0])
        cord = wound(random.Random(23), 7, 450)
        self.at_once(allcords.change_holds, wall, rule, change, kept, ("either", cord, cord))

    def test_chains(self):
        chance = random.Random(24)
        for wall in (((0,) * 7, ()), ((0,) * 7, ((1, 2), (1, 3))), ((12,) * 3 + (0,) * 4, ((1, 2),))):
            for row in ((("double", 7), ("double", 7), ("double", 7)), (("double", 4), ("carry", 4, 5), ("carry", 4, 6), ("rail", 1, 7)),
                        (("wear", 7, 30), ("wear", 7, 15), ("wear", 7, 3), ("bring", 5, 6))):
                cord = wound(chance, 7, 10, (-5, 5))
                self.assertEqual(len(self.at_once(chains.walls_led, wall, row)), len(row) + 1)
                self.at_once(chains.cord_led, wall, row, cord)
            for change in (("double", 5), ("carry", 5, 6), ("rail", 5, 7), ("wear", 4, 2), ("bring", 6, 7)):
                for cord in (wound(chance, 7, 10, (-5, 5)), wound(chance, 2, 10, (-5, 5)), tuple((5, 5) for _ in range(10))):
                    for function in (chains.new_rule, chains.lost_sets, chains.is_firm):
                        self.at_once(function, wall, change, cord)
