"""At the greatest sizes of the limits of parts 9 to 13, and somewhat beyond, an answer comes at once."""

import itertools
import random

from pulledpegs import frames, galleries, orders, pairs, promises, reports, rules, texts
from pulledpegs.errors import Broken, NotOnWall, Quarrel
from pulledpegs.houses import Room
from pulledpegs.wishes import wish_holds
from tests.sets import all_sets
from tests.test_sizes import WALLS, Timed, wound


def small(wall, many):
    return (wall[0][:many], tuple(rail for rail in wall[1] if rail[1] <= many))


def woven(chance, pegs, many):
    """A cord about many pegs, each ahead and then back, that mostly falls without one or two of them."""
    row = chance.sample(range(1, pegs + 1), many)
    return tuple((peg, 1) for peg in row) + tuple((peg, -1) for peg in chance.sample(row, many))


class Galleries(Timed):
    def test_eight_pictures_on_nine_pegs(self):
        chance = random.Random(801)
        for wall, pegs in [(small(wall, 9), 9) for wall in WALLS] + [(WALLS[0], 10)]:
            for owners in ((0,) * 10, (0, 1, 2, 3, 4, 5, 6, 7, 8, 0), (0, 0, 0, 0, 0, 0, 0, 8, 1, 2), (1, 2, 3, 4, 5, 6, 7, 8, 1, 2)):
                for cords in (tuple(wound(chance, pegs, 12) for _ in range(8)), tuple(woven(chance, pegs, 6) for _ in range(8)),
                              tuple(((peg, 1), (peg + 1, 1)) * 6 for peg in range(1, 9))):
                    self.look_at((wall, owners[:pegs], cords))

    def look_at(self, gallery):
        self.assertIs(self.at_once(galleries.is_gallery, gallery), True)
        in_wall = self.at_once(galleries.wall_pegs, gallery)
        for pulled in ((), in_wall[::2], in_wall):
            self.at_once(galleries.hanging, gallery, pulled)
            told = self.at_once(galleries.judge_picture, gallery, pulled, 8)
            self.assertIs(self.at_once(galleries.picture_holds, gallery, pulled, 8, told), True)
            for thing in (("falls", tuple(range(1, 9))), ("stays", tuple(range(1, 9))), ("falls", (8,) * 3000), ("stays", (8,) * 3000)):
                self.at_once(galleries.picture_holds, gallery, pulled, 8, thing)
        for function in (frames.wall_rule, frames.least_falls, frames.hangs_on):
            self.at_once(function, gallery, 5)
        for k in (0, 1, 4, 5, 9, 10 ** 39):
            self.at_once(frames.safe_pictures, gallery, k)
        self.at_once(frames.hooked, gallery, 5, ((1, 1),) * 12)


class Orders(Timed):
    def test_rules_of_nine_and_ten_pegs(self):
        chance = random.Random(802)
        for many in (9, 10):
            for size in (1, 2, 3, 4, 5, 9):
                sets = list(itertools.combinations(range(1, many + 1), size))
                rule = tuple(sorted(chance.sample(sets, min(40, len(sets)))))
                pegs = tuple(range(1, many + 1))
                self.assertEqual(len(self.at_once(orders.fall_times, many, rule)), many + 1)
                for function in (orders.earliest, orders.latest):
                    self.at_once(function, many, rule)
                self.at_once(orders.share_of, many, rule, many)
                told = self.at_once(orders.judge_turn, many, rule, pegs)
                self.assertIs(self.at_once(orders.turn_holds, many, rule, pegs, told), True)


class Reports(Timed):
    def test_twelve_reports(self):
        chance = random.Random(803)
        for wall in WALLS:
            for many in (8, 9, 10):
                few = small(wall, many)
                for part in (0.3, 0.7, 1):
                    seen = tuple(sorted((pegs, chance.random() < part) for pegs in chance.sample(all_sets(many), 12)))
                    self.look_at(few, seen)

    def look_at(self, wall, seen):
        self.assertIs(self.at_once(reports.are_reports, wall, seen), True)
        told = self.at_once(reports.judge_reports, wall, seen)
        self.assertIs(self.at_once(reports.reports_hold, wall, seen, told), True)
        for pegs in all_sets(len(wall[0]))[::37]:
            if told[0] == "quarrel":
                with self.assertRaises(Quarrel):
                    self.at_once(reports.judge_sure, wall, seen, pegs)
            else:
                sure = self.at_once(reports.judge_sure, wall, seen, pegs)
                self.assertIs(self.at_once(reports.sure_holds, wall, seen, pegs, sure), True)
                self.at_once(reports.state_of, wall, seen, pegs)

    def test_all_rules_and_all_sets(self):
        chance = random.Random(804)
        for wall in WALLS:
            for many in (4, 5, 6):
                few = small(wall, many)
                rule = rules.rule_of(few, wound(chance, many, 12))
                seen = tuple(sorted((pegs, rules.keeps(many, rule, pegs)) for pegs in chance.sample(all_sets(many), 12)))
                self.at_once(reports.open_sets, few, seen)
                self.at_once(reports.settled_rule, few, seen)
                if many < 6:
                    self.at_once(reports.many_fitting, few, seen)
                    self.at_once(reports.many_fitting, few, ())


class Pairs(Timed):
    def cords(self, chance):
        yield wound(chance, 10, 16), wound(chance, 10, 16)
        yield woven(chance, 10, 8), woven(chance, 10, 8)
        yield tuple((peg, 1) for peg in range(1, 6)) + tuple((peg, -1) for peg in range(1, 6)), \
            tuple((peg, 1) for peg in range(6, 11)) + tuple((peg, -1) for peg in range(6, 11))
        nest = ((1, 1), (2, 1), (1, -1), (2, -1), (3, 1), (4, 1), (3, -1), (4, -1))
        nest = nest + ((2, 1), (1, 1), (2, -1), (1, -1), (4, 1), (3, 1), (4, -1), (3, -1))
        yield nest, tuple((peg + 5, winds) for peg, winds in nest)
        yield tuple((peg, 1) for peg in range(1, 11)), ((10, 5), (1, 1)) * 8

    def test_sixteen_pairs_on_ten_pegs(self):
        for wall in WALLS:
            for one, other in self.cords(random.Random(805)):
                for first, second in ((one, other), (other, one)):
                    told = self.at_once(pairs.judge_lasts, wall, first, second)
                    self.assertIs(self.at_once(pairs.lasts_holds, wall, first, second, told), True)
                    self.assertIs(self.at_once(pairs.lasts, wall, first, second), told == ("lasts",))
                cord = self.at_once(pairs.lasting_for, wall, one, other)
                self.assertIs(pairs.lasts(wall, cord, one), True)
                try:
                    cord = self.at_once(pairs.lasting_with, wall, one, other)
                    self.assertIs(pairs.lasts(wall, one, cord), True)
                except NotOnWall as error:
                    rule = rules.both(10, rules.rule_of(wall, one), rules.rule_of(wall, other))
                    self.assertIs(wish_holds(wall, rule, error.certificate), True)
                self.at_once(pairs.fall_ways, wall, one, other)

    def test_six_pegs(self):
        chance = random.Random(806)
        for wall in WALLS:
            for _ in range(5):
                self.at_once(pairs.fall_ways, small(wall, 6), wound(chance, 6, 16), wound(chance, 6, 16))


class Rooms(Timed):
    def filled(self, chance, wall):
        room = Room(wall)
        base = wound(chance, 7, 4, (-100, -99, 1, 99))
        for at, name in enumerate(("a", "b", "c", "d", "e", "f", "gggggggg", "hhhhhhhh")):
            self.at_once(room.put, name, base if at % 2 else base + wound(chance, 7, 12, (-100, 100, 1)))
        for one, other in itertools.permutations([name for name, _ in room.names()], 2):
            if len(room.promises()) < 8:
                try:
                    self.at_once(room.make, ("lasts", one, other))
                except Broken as error:
                    self.assertIs(self.at_once(promises.against_holds, room, *vars(error).values()), True)
        return room

    def test_seven_pegs_eight_names_and_eight_promises(self):
        chance = random.Random(807)
        for wall in [small(wall, 7) for wall in WALLS]:
            room = self.filled(chance, wall)
            self.assertEqual((len(room.names()), len(room.promises())), (8, 8))
            for deed in (lambda: room.back("a"), lambda: room.behind("b", "b", "b"), lambda: room.swap("d", "b", "b"),
                         lambda: room.change(("wear", 1, 2)), lambda: room.change(("rail", 6, 7)), lambda: room.change(("rail", 1, 2)),
                         lambda: room.make(("alike", "b", "d")), lambda: room.leave("hhhhhhhh")):
                try:
                    self.at_once(deed)
                except Exception as error:
                    self.assertIn(error.__class__.__name__, ("Broken", "BadChange"))
                read = self.at_once(texts.read_room, self.at_once(room.text))
                self.assertIs(self.at_once(room.is_same, read), True)
                for promise in room.promises():
                    self.assertEqual(self.at_once(promises.judge_promise, room, promise), ("holds",))
            for _ in range(4):
                self.at_once(self.at_once(room.copied).undo)
                self.at_once(room.undo)

    def test_long_wrong_values(self):
        chance = random.Random(808)
        room = self.filled(chance, small(WALLS[0], 7))
        for thing in (((1, 1), (2, -1)) * 450, (("join", 0),) * 900, (0,) * 3000, tuple(range(1, 3000)), "cord a" * 300):
            for word in ("slides", "rest", "forms", "set"):
                for promise in (("keeps", "a", ()), ("falls", "a", (1, 2, 3, 4, 5, 6, 7)), ("alike", "a", "b"), ("lasts", "b", "a")):
                    self.assertIs(self.at_once(promises.against_holds, room, promise, (word, thing)), False)
                    self.at_once(promises.against_holds, room, promise, (word, thing, thing))
            self.assertIs(self.at_once(room.is_same, thing), False)
        for text in ("pegs 0\ncord a" + " 1:1" * 400, "pegs 0\n" + "cord a\n" * 200, "\n" * 2000, "pegs 0\ncord a" + " 1:2" * 480 + " 1:0",
                     "pegs 0\ncord a\npromise falls a" + " 1" * 900, "pegs 0\ncord a 1:" + "9" * 1900):
            try:
                self.at_once(texts.read_room, text)
            except texts.BadText as error:
                self.assertGreater(error.line, 0)
