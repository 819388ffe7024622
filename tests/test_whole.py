"""What the document promises over the whole program: its parts agree with one another."""

import itertools
import random
import unittest

from pulledpegs.allcords import change_holds, judge_change
from pulledpegs.chains import cord_led, new_rule
from pulledpegs.changes import changed_cord, led_rule, wall_behind
from pulledpegs.cords import alike_holds, are_alike, back, behind, form_of, is_cord, judge_alike, swap
from pulledpegs.counts import judge_row, row_holds
from pulledpegs.errors import Broken, NotOnWall
from pulledpegs.frames import hooked, least_falls, wall_rule
from pulledpegs.galleries import hanging, is_gallery, judge_picture, picture_holds
from pulledpegs.houses import Room
from pulledpegs.nests import nest, order_for
from pulledpegs.orders import earliest, fall_times, judge_turn, latest, share_of, turn_holds
from pulledpegs.pairs import fall_ways, judge_lasts, lasting_for, lasting_with, lasts, lasts_holds
from pulledpegs.promises import against_holds, judge_promise
from pulledpegs.pulled import does_keep, first_fall, judge_keep, keep_holds
from pulledpegs.reports import are_reports, judge_reports, judge_sure, open_sets, reports_hold, settled_rule, state_of, sure_holds
from pulledpegs.rounds import judge_round, round_holds
from pulledpegs.rules import both, either, is_rule, judge_rule, keeps, least_pulls, rule_holds, rule_of
from pulledpegs.texts import read_room
from pulledpegs.walls import hangs_together, is_right, wall_of_text, wall_text
from pulledpegs.wishes import cord_for, has_cord, judge_both, judge_table, judge_wish, table_holds, table_of, wish_holds
from tests.lead import right_changes
from tests.sets import all_sets, random_rule, random_wall
from tests.test_pulled import random_cord


def walls_and_cords(seed, rows):
    """Walls, each with three of its cords: one at random, one that mostly falls without one of its pegs, and a short one."""
    chance = random.Random(seed)
    for _ in range(rows):
        many = chance.choice((1, 2, 3, 4))
        wall = random_wall(chance, many, (0, 0, 2, 3, 6), chance.choice((0, 0.3, 0.6)))
        half = random_cord(chance, many, 3, (-1, 1, 2))
        yield chance, wall, (random_cord(chance, many, 6, (-3, -1, 1, 2)), half + tuple((peg, -winds) for peg, winds in half), half)


class Whole(unittest.TestCase):
    def test_certificates_of_cords(self):
        for _, wall, cords in walls_and_cords(701, 40):
            for one, other in itertools.product(cords, repeat=2):
                for judge, holds in ((judge_alike, alike_holds), (judge_lasts, lasts_holds)):
                    self.assertIs(holds(wall, one, other, judge(wall, one, other)), True)
                    self.assertIs(holds(wall=wall, one=one, other=other, thing=judge(other=other, one=one, wall=wall)), True)
                if max(len(one), len(other)) <= 6:
                    self.assertIs(round_holds(wall, one, other, judge_round(wall, one, other)), True)
                self.assertIs(are_alike(wall, one, other), judge_alike(wall, one, other)[0] == "form")
                self.assertIs(lasts(wall, one, other), judge_lasts(wall, one, other) == ("lasts",))
            for cord in cords:
                self.assertIs(rule_holds(wall, cord, judge_rule(wall, cord)), True)
                for kept in all_sets(len(wall[0])):
                    told = judge_keep(wall, cord, kept)
                    self.assertIs(keep_holds(wall, cord, kept, told), True)
                    self.assertIs(does_keep(wall, cord, kept), told[0] == "rest")

    def test_rules_agree_with_what_keeps(self):
        for chance, wall, cords in walls_and_cords(702, 40):
            many = len(wall[0])
            for cord in cords:
                rule = rule_of(wall, cord)
                self.assertIs(is_rule(many, rule), True)
                self.assertIs(has_cord(wall, rule), True)
                other = cord_for(wall, rule)
                self.assertEqual(rule_of(wall, other), rule)
                self.assertIs(wish_holds(wall, rule, ("cord", cord)), True)
                self.assertIs(wish_holds(wall, rule, judge_wish(wall, rule)), True)
                table = table_of(many, rule)
                self.assertIs(table_holds(wall, table, judge_table(wall, table)), True)
                for number, kept in enumerate(table):
                    pegs = tuple(peg for peg in range(1, many + 1) if number >> (peg - 1) & 1)
                    told = {kept, does_keep(wall, cord, pegs), does_keep(wall, other, pegs), keeps(many, rule, pegs)}
                    self.assertEqual(len(told), 1, (wall, cord, pegs))
                for order in itertools.permutations(range(1, many + 1)):
                    self.assertEqual(first_fall(wall, cord, order), first_fall(wall, other, order))
                self.assertEqual([lasts(wall, cord, other), lasts(wall, other, cord)], [True, True])
                self.assertEqual(fall_ways(wall, cord, other), ("both",))

    def test_orders_agree_with_falls(self):
        for _, wall, cords in walls_and_cords(703, 20):
            many = len(wall[0])
            for cord in cords:
                rule = rule_of(wall, cord)
                falls = [first_fall(wall, cord, order) for order in itertools.permutations(range(1, many + 1))]
                self.assertEqual(fall_times(many, rule), tuple(falls.count(pulls) for pulls in range(many + 1)))
                self.assertEqual([earliest(many, rule), latest(many, rule)], [min(falls), max(falls)])
                self.assertEqual(earliest(many, rule), min(map(len, least_pulls(many, rule))))
                shares = sum(share_of(many, rule, peg) for peg in range(1, many + 1))
                self.assertEqual(shares, len(falls) - falls.count(0))
                for kept in all_sets(many):
                    if does_keep(wall, cord, kept):
                        self.assertIs(turn_holds(many, rule, kept, judge_turn(many, rule, kept)), True)

    def test_two_cords_and_two_rules(self):
        for _, wall, cords in walls_and_cords(704, 25):
            many = len(wall[0])
            for one, other in itertools.product(cords, repeat=2):
                rules = rule_of(wall, one), rule_of(wall, other)
                self.assertEqual(rule_of(wall, lasting_for(wall, one, other)), either(many, *rules))
                told = judge_both(wall, *rules)
                self.assertIs(wish_holds(wall, both(many, *rules), told), True)
                if told[0] == "cord":
                    self.assertEqual(rule_of(wall, lasting_with(wall, one, other)), both(many, *rules))
                else:
                    with self.assertRaises(NotOnWall) as caught:
                        lasting_with(wall, one, other)
                    self.assertIs(wish_holds(wall, both(many, *rules), caught.exception.certificate), True)

    def test_changes(self):
        for chance, wall, cords in walls_and_cords(705, 25):
            drawn = chance.sample(sorted(right_changes(wall)), min(5, len(right_changes(wall))))
            for change, cord in itertools.product(drawn, cords):
                led, changed = wall_behind(wall, change), changed_cord(wall, change, cord)
                self.assertIs(is_right(led), True)
                self.assertIs(is_cord(led, changed), True)
                self.assertEqual(new_rule(wall, change, cord), rule_of(led, changed))
                self.assertEqual(cord_led(wall, (change,), cord), changed)
                if change[0] in ("double", "carry"):
                    self.assertEqual(new_rule(wall, change, cord), led_rule(wall, change, rule_of(wall, cord)))
                    continue
                for kept in all_sets(len(led[0])):
                    told = judge_change(wall, rule_of(wall, cord), change, kept)
                    self.assertIs(change_holds(wall, rule_of(wall, cord), change, kept, told), True)
                    if told[0] != "either":
                        self.assertIs(does_keep(led, changed, kept), told[0] == "sure")

    def test_rows_counted(self):
        for chance in (random.Random(706),):
            for _ in range(60):
                cord = random_cord(chance, 4, 8, (-2, -1, 1))
                told = judge_row(cord)
                plain = ((0,) * 10, ())
                self.assertIs(told is None, form_of(plain, cord) == ())
                if told is not None:
                    self.assertIs(row_holds(cord, told), True)
                    self.assertIs(does_keep(plain, cord, tuple(sorted(set(told[1])))), True)

    def test_walls_and_nests(self):
        for _, wall, _ in walls_and_cords(707, 30):
            self.assertEqual(wall_of_text(wall_text(wall)), wall)
            for pegs in all_sets(len(wall[0])):
                if hangs_together(wall, pegs):
                    self.assertEqual(rule_of(wall, nest(wall, order_for(wall, pegs))), (pegs,))
                self.assertIs(has_cord(wall, (pegs,) if pegs else ()), pegs == () or hangs_together(wall, pegs))


class Galleries(unittest.TestCase):
    def test_all_in_the_wall(self):
        for _, wall, cords in walls_and_cords(711, 20):
            many = len(wall[0])
            gallery = (wall, (0,) * many, cords)
            for pulled in all_sets(many):
                left = tuple(peg for peg in range(1, many + 1) if peg not in pulled)
                due = tuple(at + 1 for at, cord in enumerate(cords) if does_keep(wall, cord, left))
                self.assertEqual(hanging(gallery, pulled), due)
                for picture in (1, 2, 3):
                    told = judge_picture(gallery, pulled, picture)
                    self.assertIs(picture_holds(gallery, pulled, picture, told), True)
                    self.assertEqual(told[0], "stays" if picture in due else "falls")
            for picture, cord in enumerate(cords, start=1):
                self.assertEqual(wall_rule(gallery, picture), rule_of(wall, cord))
                self.assertEqual(least_falls(gallery, picture), least_pulls(many, rule_of(wall, cord)))

    def test_cords_of_one_rule_hang_alike(self):
        for chance, wall, cords in walls_and_cords(712, 20):
            many = len(wall[0])
            gallery = (wall, tuple(chance.randint(0, 3) for _ in range(many)), cords)
            other = gallery
            for picture, cord in enumerate(cords, start=1):
                other = hooked(other, picture, cord_for(wall, rule_of(wall, cord)))
            self.assertIs(is_gallery(other), True)
            in_wall = [peg for peg in range(1, many + 1) if gallery[1][peg - 1] == 0]
            for pulled in all_sets(many):
                if set(pulled) <= set(in_wall):
                    self.assertEqual(hanging(gallery, pulled), hanging(other, pulled))
                    for picture in (1, 2, 3):
                        self.assertIs(picture_holds(gallery, pulled, picture, judge_picture(other, pulled, picture)), True)


class Reports(unittest.TestCase):
    def test_reports_on_a_cord(self):
        for chance, wall, cords in walls_and_cords(721, 30):
            sets = all_sets(len(wall[0]))
            for cord in cords:
                seen = tuple(sorted((pegs, does_keep(wall, cord, pegs)) for pegs in chance.sample(sets, chance.randint(0, len(sets)))))
                self.assertIs(are_reports(wall, seen), True)
                self.assertIs(reports_hold(wall, seen, ("rule", rule_of(wall, cord))), True)
                self.assertIs(reports_hold(wall, seen, judge_reports(wall, seen)), True)
                for pegs in sets:
                    told = judge_sure(wall, seen, pegs)
                    self.assertIs(sure_holds(wall, seen, pegs, told), True)
                    self.assertEqual(told[0], state_of(wall, seen, pegs))
                    self.assertIs(pegs in open_sets(wall, seen), told[0] == "open")
                    if told[0] != "open":
                        self.assertIs(does_keep(wall, cord, pegs), told[0] == "keeps")
                        continue
                    # A cord with each of the two rules could have been seen so.
                    one, other = cord_for(wall, told[1]), cord_for(wall, told[2])
                    self.assertEqual([does_keep(wall, one, pegs), does_keep(wall, other, pegs)], [True, False])
                    for kept, was_kept in seen:
                        self.assertEqual([does_keep(wall, its, kept) for its in (one, other)], [was_kept] * 2)
                every = tuple(sorted((pegs, does_keep(wall, cord, pegs)) for pegs in sets))
                self.assertEqual(settled_rule(wall, every), rule_of(wall, cord))

    def test_reports_from_rules(self):
        chance = random.Random(722)
        for _ in range(25):
            many = chance.choice((3, 4, 5))
            wall = random_wall(chance, many, (0,), 0.3)
            rule = random_rule(chance, many, 3, 3, lambda pegs: hangs_together(wall, pegs))
            seen = tuple(sorted((pegs, keeps(many, rule, pegs)) for pegs in chance.sample(all_sets(many), 5)))
            self.assertIs(reports_hold(wall, seen, ("rule", rule)), True)
            self.assertEqual(settled_rule(wall, seen) is not None, open_sets(wall, seen) == ())


class Rooms(unittest.TestCase):
    def test_rooms_agree_with_cords(self):
        for chance, wall, cords in walls_and_cords(731, 25):
            room = Room(wall)
            for name, cord in zip("abc", cords):
                room.put(name, cord)
            for word, one, other in itertools.product(("alike", "lasts"), "abc", "abc"):
                if one < other or (word == "lasts" and one != other):
                    first, second = room.cord_of(one), room.cord_of(other)
                    told = judge_alike(wall, first, second) if word == "alike" else judge_lasts(wall, first, second)
                    self.check(room, (word, one, other), told, ("form", "lasts"))
            for name, cord in zip("abc", cords):
                for pegs in all_sets(len(wall[0])):
                    self.check(room, ("keeps", name, pegs), judge_keep(wall, cord, pegs), ("rest",))
                    self.check(room, ("falls", name, pegs), judge_keep(wall, cord, pegs), ("slides",))
            self.check_deeds(room, wall, dict(zip("abc", cords)))

    def check(self, room, promise, told, held):
        judged = judge_promise(room, promise)
        self.assertEqual(judged, ("holds",) if told[0] in held else told)
        self.assertIs(against_holds(room, promise, told), told[0] not in held)
        if judged == ("holds",):
            self.assertIsNone(room.make(promise))
            room.undo()
        else:
            with self.assertRaises(Broken) as caught:
                room.make(promise)
            self.assertEqual((caught.exception.promise, caught.exception.certificate), (promise, told))

    def check_deeds(self, room, wall, cords):
        room.behind("a", "b", "c")
        self.assertEqual(room.cord_of("a"), behind(wall, cords["b"], cords["c"]))
        room.undo()
        room.swap("b", "b", "c")
        self.assertEqual(room.cord_of("b"), swap(wall, cords["b"], cords["c"]))
        room.undo()
        room.back("c")
        self.assertEqual(room.cord_of("c"), back(wall, cords["c"]))
        room.undo()
        for change in sorted(right_changes(wall))[::7]:
            if change[0] in ("rail", "wear", "carry"):
                room.change(change)
                self.assertEqual(room.wall(), wall_behind(wall, change))
                for name in "abc":
                    self.assertEqual(room.cord_of(name), changed_cord(wall, change, cords[name]))
                self.assertIs(read_room(room.text()).is_same(room), True)
                room.undo()
        self.assertEqual((room.wall(), dict(room.names())), (wall, cords))
