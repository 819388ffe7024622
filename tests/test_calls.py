"""Each function by position and by name, and each wrong value in the place of each argument."""

import copy
import inspect
import itertools
import unittest

from pulledpegs import (allcords, chains, changes, cords, counts, frames, galleries, nests, orders, pairs, promises, pulled, reports,
                        rounds, rules, texts, walls, wishes)
from pulledpegs.errors import (BadChange, BadCord, BadGallery, BadNumber, BadOrder, BadPicture, BadPromise, BadReports, BadRow, BadRule,
                               BadSet, BadSlide, BadTable, BadText, BadWall, PegError)
from tests.near import shape
from tests.odd import (NO_CHANGES, NO_CORDS, NO_FOURTHS, NO_GALLERIES, NO_KS, NO_ORDERS, NO_PICTURES, NO_PLAIN_CORDS, NO_PROMISES,
                       NO_PULLED, NO_PULLS, NO_REPORTS, NO_ROWS, NO_RULES, NO_SETS, NO_SLIDES, NO_TABLES, NO_WALLS, ODD, ROOM)

WALL = ((0, 2, 3, 0), ((1, 3), (2, 4)))
ONE = ((1, 1), (3, 2), (2, 1), (1, -1))
OTHER = ((3, 2), (1, 1), (2, 1), (1, -1))

WALL_ROW = ("wall", WALL, BadWall, NO_WALLS)
CORD_ROW = ("cord", ONE, BadCord, NO_CORDS)
SET_ROW = ("pegs", (1, 2, 4), BadSet, NO_SETS)
KEPT_ROW = ("kept", (1, 2, 4), BadSet, NO_SETS)
TWO_ROWS = [WALL_ROW, ("one", ONE, BadCord, NO_CORDS), ("other", OTHER, BadCord, NO_CORDS)]

RULE = ((1, 2), (1, 4), (3,))
SECOND = ((2, 3), (4,))
MANY_ROW = ("many", 4, None, [])
RULE_ROW = ("rule", RULE, BadRule, NO_RULES)
TWO_RULES = [("one", RULE, BadRule, NO_RULES), ("other", SECOND, BadRule, NO_RULES)]
# A cord with the rule.
SWAPS = ((1, 1), (2, 1), (1, -1), (2, -1), (3, 1), (4, 5), (1, 2), (4, -5), (1, -2))
TABLE = (False, False, False, True, True, True, True, True, False, True, False, True, True, True, True, True)
TABLE_ROW = ("table", TABLE, BadTable, NO_TABLES)

PLAIN_ROW = ("cord", ONE, BadCord, NO_PLAIN_CORDS)
CHANGE = ("rail", 1, 4)
CHANGE_ROW = ("change", CHANGE, BadChange, NO_CHANGES)
LEADING_ROW = ("change", ("double", 4), BadChange, NO_CHANGES + [CHANGE, ("wear", 1, 2)])
JUDGED_ROW = ("change", CHANGE, BadChange, NO_CHANGES + [("double", 1), ("double", 4)])
# A tuple is wrong by its first item that is no change, so here stand only values that are no tuples.
CHANGES_ROW = ("changes", (CHANGE, ("wear", 4, 7)), BadChange, [thing for thing in ODD if not isinstance(thing, tuple)])
LED = ((0, 2, 3, 7), ((1, 3), (1, 4), (2, 4)))
FELL = ((1, 1), (2, 1), (1, -1), (2, -1), (1, 1), (4, 1), (1, -1), (4, -1), (3, 1))

# The peg 4 is in the frame of the picture 1, and the pictures hang on 1 and 2, and on 4 and 3.
GALLERY = (WALL, (0, 0, 0, 1), (((1, 1), (2, 1), (1, -1), (2, -1)), ((4, 1), (3, 1), (4, -1), (3, -1))))
GALLERY_ROW = ("gallery", GALLERY, BadGallery, NO_GALLERIES)
PULLED_ROW = ("pulled", (3,), BadSet, NO_PULLED)
PICTURE_ROW = ("picture", 2, BadPicture, NO_PICTURES)
TURN_ROW = ("kept", (1, 2, 3), BadSet, NO_SETS + [(), (1,), (2, 4)])
REPORTS = (((1, 2), False), ((1, 2, 4), True), ((1, 3), True))
REPORTS_ROW = ("reports", REPORTS, BadReports, NO_REPORTS)

# Each function with its parameters in their order: the name, a right value, the error for a wrong one, wrong values.
CALLS = [
    (walls.is_right, [("thing", WALL, None, NO_WALLS)], True),
    (walls.is_set, [WALL_ROW, ("thing", (1, 2, 4), None, NO_SETS)], True),
    (walls.are_tied, [WALL_ROW, ("i", 1, None, []), ("j", 2, None, [])], True),
    (walls.hangs_together, [WALL_ROW, SET_ROW], True),
    (walls.parts_of, [WALL_ROW, SET_ROW], ((1, 2, 4),)),
    (walls.wall_text, [WALL_ROW], "pegs 0 2 3 0 rails 1-3 2-4"),
    (walls.wall_of_text, [("text", "pegs 0 2 3 0 rails 1-3 2-4", BadText, ODD + [WALL])], WALL),
    (cords.is_cord, [WALL_ROW, ("thing", ONE, None, NO_CORDS)], True),
    (cords.slid, [WALL_ROW, CORD_ROW, ("slide", ("past", 0), BadSlide, NO_SLIDES)], OTHER),
    (cords.form_of, [WALL_ROW, CORD_ROW], ONE),
    (cords.length_of, [WALL_ROW, CORD_ROW], 4),
    (cords.back, [WALL_ROW, CORD_ROW], ((1, 1), (2, -1), (3, -2), (1, -1))),
    (cords.behind, TWO_ROWS, ONE + OTHER),
    (cords.swap, TWO_ROWS, ONE + OTHER + ((1, 1), (2, -1), (3, -2), (1, -1)) + ((1, 1), (2, -1), (1, -1), (3, -2))),
    (cords.are_alike, TWO_ROWS, True),
    (cords.judge_alike, TWO_ROWS, ("form", ONE)),
    (cords.alike_holds, TWO_ROWS + [("thing", ("form", ONE), None, ODD)], True),
    (rounds.round_form, [WALL_ROW, CORD_ROW], ((2, 1), (3, 2))),
    (rounds.judge_round, TWO_ROWS, None),
    (rounds.round_holds, TWO_ROWS + [("thing", ("cord", ()), None, ODD)], True),
    (rounds.is_round, TWO_ROWS, True),
    (pulled.cord_on, [WALL_ROW, CORD_ROW, KEPT_ROW], ((1, 1), (2, 1), (1, -1))),
    (pulled.does_keep, [WALL_ROW, CORD_ROW, KEPT_ROW], True),
    (pulled.judge_keep, [WALL_ROW, CORD_ROW, KEPT_ROW], ("rest", ((1, 1), (2, 1), (1, -1)))),
    (pulled.keep_holds, [WALL_ROW, CORD_ROW, KEPT_ROW, ("thing", ("rest", ((1, 1), (2, 1), (1, -1))), None, ODD)], True),
    (pulled.first_fall, [WALL_ROW, CORD_ROW, ("pulls", (3, 1, 2), BadOrder, NO_PULLS)], 3),
    (rules.is_rule, [MANY_ROW, ("thing", RULE, None, NO_RULES)], True),
    (rules.keeps, [MANY_ROW, RULE_ROW, KEPT_ROW], True),
    (rules.falling_sets, [MANY_ROW, RULE_ROW], ((1,), (2, 4))),
    (rules.least_pulls, [MANY_ROW, RULE_ROW], ((1, 3), (2, 3, 4))),
    (rules.either, [MANY_ROW] + TWO_RULES, ((1, 2), (3,), (4,))),
    (rules.both, [MANY_ROW] + TWO_RULES, ((1, 4), (2, 3), (3, 4))),
    (rules.kept_by_size, [MANY_ROW, RULE_ROW], (0, 1, 5, 4, 1)),
    (rules.rule_of, [WALL_ROW, CORD_ROW], ((2,), (3,))),
    (rules.judge_rule, [WALL_ROW, CORD_ROW], ("rule", ((2,), (3,)), ((1, 4),))),
    (rules.rule_holds, [WALL_ROW, CORD_ROW, ("thing", ("rule", ((2,), (3,)), ((1, 4),)), None, ODD)], True),
    (nests.nest, [WALL_ROW, ("order", (1, 2), BadOrder, NO_ORDERS)], ((1, 1), (2, 1), (1, -1), (2, -1))),
    (nests.order_for, [WALL_ROW, ("pegs", (1, 2), BadSet, NO_SETS + [(), (1, 3), (2, 4)])], None),
    (wishes.has_cord, [WALL_ROW, RULE_ROW], True),
    (wishes.judge_wish, [WALL_ROW, RULE_ROW], None),
    (wishes.wish_holds, [WALL_ROW, RULE_ROW, ("thing", ("cord", SWAPS), None, ODD)], True),
    (wishes.cord_for, [WALL_ROW, RULE_ROW], None),
    (wishes.fewest_pairs, [WALL_ROW, RULE_ROW], 7),
    (wishes.judge_table, [WALL_ROW, TABLE_ROW], None),
    (wishes.table_holds, [WALL_ROW, TABLE_ROW, ("thing", ("cord", SWAPS), None, ODD)], True),
    (wishes.table_of, [MANY_ROW, RULE_ROW], TABLE),
    (wishes.judge_both, [WALL_ROW, TWO_RULES[0], TWO_RULES[1]], None),
    (wishes.many_rules, [WALL_ROW], 83),
    (wishes.all_rules, [WALL_ROW], None),
    (counts.count_of, [PLAIN_ROW, ("row", (1, 3, 2), BadRow, NO_ROWS)], 2),
    (counts.counted_rows, [PLAIN_ROW, ("length", 1, None, [])], (((), 1), ((2,), 1), ((3,), 2))),
    (counts.depth_of, [PLAIN_ROW], 1),
    (counts.judge_row, [PLAIN_ROW], None),
    (counts.row_holds, [PLAIN_ROW, ("thing", ("row", (1, 3, 2), 2), None, ODD)], True),
    (changes.is_change, [WALL_ROW, ("thing", CHANGE, None, NO_CHANGES)], True),
    (changes.wall_behind, [WALL_ROW, CHANGE_ROW], ((0, 2, 3, 0), ((1, 3), (1, 4), (2, 4)))),
    (changes.changed_cord, [WALL_ROW, CHANGE_ROW, CORD_ROW], ONE),
    (changes.led_rule, [WALL_ROW, LEADING_ROW, RULE_ROW], ((1, 2), (1, 4), (1, 5), (3,))),
    (allcords.judge_change, [WALL_ROW, RULE_ROW, JUDGED_ROW, KEPT_ROW], ("sure", (1, 2))),
    (allcords.change_holds, [WALL_ROW, RULE_ROW, JUDGED_ROW, KEPT_ROW, ("thing", ("sure", (1, 2)), None, ODD)], True),
    (allcords.after_change, [WALL_ROW, RULE_ROW, JUDGED_ROW, KEPT_ROW], "sure"),
    (chains.walls_led, [WALL_ROW, CHANGES_ROW], (WALL, ((0, 2, 3, 0), LED[1]), LED)),
    (chains.cord_led, [WALL_ROW, CHANGES_ROW, CORD_ROW], ONE),
    (chains.new_rule, [WALL_ROW, CHANGE_ROW, ("cord", FELL, BadCord, NO_CORDS)], ((1, 2), (3,))),
    (chains.lost_sets, [WALL_ROW, CHANGE_ROW, ("cord", FELL, BadCord, NO_CORDS)], ((1, 4),)),
    (chains.is_firm, [WALL_ROW, ("change", ("wear", 4, 2), BadChange, NO_CHANGES), ("cord", FELL, BadCord, NO_CORDS)], True),
    (galleries.is_gallery, [("thing", GALLERY, None, NO_GALLERIES)], True),
    (galleries.wall_pegs, [GALLERY_ROW], (1, 2, 3)),
    (galleries.hanging, [GALLERY_ROW, PULLED_ROW], (1,)),
    (galleries.judge_picture, [GALLERY_ROW, PULLED_ROW, PICTURE_ROW], ("falls", (2,))),
    (galleries.picture_holds, [GALLERY_ROW, PULLED_ROW, PICTURE_ROW, ("thing", ("falls", (2,)), None, ODD)], True),
    (frames.wall_rule, [GALLERY_ROW, PICTURE_ROW], ((1, 2, 3),)),
    (frames.least_falls, [GALLERY_ROW, PICTURE_ROW], ((1,), (2,), (3,))),
    (frames.hangs_on, [GALLERY_ROW, PICTURE_ROW], (1,)),
    (frames.safe_pictures, [GALLERY_ROW, ("k", 0, BadNumber, NO_KS)], (1, 2)),
    (frames.hooked, [GALLERY_ROW, PICTURE_ROW, CORD_ROW], (GALLERY[0], GALLERY[1], (GALLERY[2][0], ONE))),
    (orders.fall_times, [MANY_ROW, RULE_ROW], (0, 0, 4, 14, 6)),
    (orders.share_of, [MANY_ROW, RULE_ROW, ("peg", 3, BadNumber, NO_FOURTHS)], 14),
    (orders.earliest, [MANY_ROW, RULE_ROW], 2),
    (orders.latest, [MANY_ROW, RULE_ROW], 4),
    (orders.judge_turn, [MANY_ROW, RULE_ROW, TURN_ROW], ("win", 3)),
    (orders.turn_holds, [MANY_ROW, RULE_ROW, TURN_ROW, ("thing", ("win", 3), None, ODD)], True),
    (reports.are_reports, [WALL_ROW, ("thing", REPORTS, None, NO_REPORTS)], True),
    (reports.judge_reports, [WALL_ROW, REPORTS_ROW], None),
    (reports.reports_hold, [WALL_ROW, REPORTS_ROW, ("thing", ("rule", ((1, 2, 4), (3,))), None, ODD)], True),
    (reports.many_fitting, [WALL_ROW, REPORTS_ROW], 3),
    (reports.judge_sure, [WALL_ROW, REPORTS_ROW, SET_ROW], ("keeps", (1, 2, 4))),
    (reports.sure_holds, [WALL_ROW, REPORTS_ROW, SET_ROW, ("thing", ("keeps", (1, 2, 4)), None, ODD)], True),
    (reports.state_of, [WALL_ROW, REPORTS_ROW, SET_ROW], "keeps"),
    (reports.open_sets, [WALL_ROW, REPORTS_ROW], ((1, 4), (2, 4), (4,))),
    (reports.settled_rule, [WALL_ROW, ("reports", (((1, 2, 4), False), ((1, 3), True)), BadReports, NO_REPORTS)], ((3,),)),
    (pairs.lasts, TWO_ROWS, True),
    (pairs.judge_lasts, TWO_ROWS, ("lasts",)),
    (pairs.lasts_holds, TWO_ROWS + [("thing", ("lasts",), None, ODD)], True),
    (pairs.fall_ways, TWO_ROWS, ("both",)),
    (pairs.lasting_for, TWO_ROWS, None),
    (pairs.lasting_with, TWO_ROWS, None),
    (promises.judge_promise, [("room", ROOM, None, []), ("promise", ("lasts", "a", "b"), BadPromise, NO_PROMISES)], ("set", (2,))),
    (promises.against_holds, [("room", ROOM, None, []), ("promise", ("lasts", "a", "b"), BadPromise, NO_PROMISES),
                              ("thing", ("set", (2, 4)), None, ODD)], True),
    (texts.read_room, [("text", "pegs 0 0 2 rails 1-2\ncord a 1:1\npromise keeps a 1 2", BadText,
                        [thing for thing in ODD if not isinstance(thing, str)])], None),
]

LISTED = {
    walls: ["is_right", "is_set", "are_tied", "hangs_together", "parts_of", "wall_text", "wall_of_text"],
    cords: ["is_cord", "slid", "form_of", "length_of", "back", "behind", "swap", "are_alike", "judge_alike", "alike_holds"],
    rounds: ["round_form", "judge_round", "round_holds", "is_round"],
    pulled: ["cord_on", "does_keep", "judge_keep", "keep_holds", "first_fall"],
    rules: ["is_rule", "keeps", "falling_sets", "least_pulls", "either", "both", "kept_by_size", "rule_of", "judge_rule",
            "rule_holds"],
    nests: ["nest", "order_for"],
    wishes: ["has_cord", "judge_wish", "wish_holds", "cord_for", "fewest_pairs", "judge_table", "table_holds", "table_of",
             "judge_both", "many_rules", "all_rules"],
    counts: ["count_of", "counted_rows", "depth_of", "judge_row", "row_holds"],
    changes: ["is_change", "wall_behind", "changed_cord", "led_rule"],
    allcords: ["judge_change", "change_holds", "after_change"],
    chains: ["walls_led", "cord_led", "new_rule", "lost_sets", "is_firm"],
    galleries: ["is_gallery", "wall_pegs", "hanging", "judge_picture", "picture_holds"],
    frames: ["wall_rule", "least_falls", "hangs_on", "safe_pictures", "hooked"],
    orders: ["fall_times", "share_of", "earliest", "latest", "judge_turn", "turn_holds"],
    reports: ["are_reports", "judge_reports", "reports_hold", "many_fitting", "judge_sure", "sure_holds", "state_of", "open_sets",
              "settled_rule"],
    pairs: ["lasts", "judge_lasts", "lasts_holds", "fall_ways", "lasting_for", "lasting_with"],
    promises: ["judge_promise", "against_holds"],
    texts: ["read_room"],
}


class Calls(unittest.TestCase):
    def test_all_functions_are_here_and_defined_where_they_are_listed(self):
        called = [function for function, _, _ in CALLS]
        for module, names in LISTED.items():
            for name in names:
                self.assertIn(getattr(module, name), called)
                self.assertEqual(getattr(module, name).__module__, module.__name__)
        self.assertEqual(len(called), sum(len(names) for names in LISTED.values()))

    def test_by_position_and_by_name(self):
        for function, rows, due in CALLS:
            names = [row[0] for row in rows]
            values = [row[1] for row in rows]
            self.assertEqual(list(inspect.signature(function).parameters), names)
            result = function(*values)
            if due is not None:
                self.assertEqual(shape(result), shape(due), function)
            self.assertEqual(shape(function(**dict(zip(names, values)))), shape(result))
            self.assertEqual(shape(function(**dict(reversed(list(zip(names, values)))))), shape(result))
            for cut in range(len(rows)):
                self.assertEqual(shape(function(*values[:cut], **dict(zip(names[cut:], values[cut:])))), shape(result))

    def check_error(self, function, values, error, value):
        with self.assertRaises(error) as caught:
            function(*values)
        self.assertIs(type(caught.exception), error)
        (attribute,) = vars(caught.exception).values()
        if error is BadText:
            self.assertEqual(attribute, 0)
        else:
            self.assertIs(attribute, value)

    def test_one_wrong_value(self):
        for function, rows, _ in CALLS:
            for at, (_, _, error, wrong) in enumerate(rows):
                for value in wrong:
                    values = [row[1] for row in rows]
                    values[at] = value
                    if error is None:
                        self.assertIs(function(*values), False, (function, value))
                    else:
                        self.check_error(function, values, error, value)

    def test_the_first_of_several_wrong_values(self):
        for function, rows, _ in CALLS:
            due = [at for at, row in enumerate(rows) if row[2] is not None]
            for first in due:
                later = [at for at in range(first + 1, len(rows)) if rows[at][3]]
                for value in rows[first][3][::5]:
                    for chosen in itertools.product((False, True), repeat=len(later)):
                        values = [row[1] for row in rows]
                        values[first] = value
                        for at, is_wrong in zip(later, chosen):
                            if is_wrong:
                                values[at] = rows[at][3][len(rows[at][3]) // 2 + at]
                        self.check_error(function, values, rows[first][2], value)

    def test_the_first_of_two_cords_or_rules(self):
        for function, rows, _ in CALLS:
            if len(rows) > 2 and rows[1][0] == "one":
                rest = [row[1] for row in rows[3:]]
                error, wrong = rows[1][2:]
                for one, other in itertools.product(wrong[::4], repeat=2):
                    self.check_error(function, [rows[0][1], one, other] + rest, error, one)

    def test_what_fits_another_wall_is_wrong(self):
        for function, rows, _ in CALLS:
            if rows[0] in (WALL_ROW, MANY_ROW) and len(rows) > 1 and rows[1][2] is not None and \
                    rows[1][0] not in ("order", "pegs", "changes"):
                small = 2 if rows[0] == MANY_ROW else ((0, 2), ())
                values = [small] + [row[1] for row in rows[1:]]
                self.check_error(function, values, rows[1][2], values[1])

    def test_walls_are_no_cords_and_cords_no_walls(self):
        for function, rows, _ in CALLS:
            values = [row[1] for row in rows]
            for at, (name, _, error, _) in enumerate(rows):
                if error not in (None, BadText) and name != "changes":
                    wrong = ONE if error is BadWall else WALL
                    self.check_error(function, values[:at] + [wrong] + values[at + 1:], error, wrong)

    def test_no_argument_is_changed(self):
        for function, rows, _ in CALLS:
            for at, (_, _, _, wrong) in enumerate(rows):
                for value in wrong:
                    kept = shape(value)
                    values = [row[1] for row in rows]
                    values[at] = value
                    try:
                        function(*values)
                    except PegError:
                        pass
                    self.assertEqual(shape(value), kept)

    def test_equality_never_raises(self):
        for one, other in itertools.product([BadWall(1), BadWall(1), BadText(0)] + ODD, repeat=2):
            self.assertIs(one == other, not one != other)

    def test_the_same_call_returns_the_same(self):
        for function, rows, _ in CALLS:
            values = [row[1] for row in rows]
            self.assertEqual(shape(function(*values)), shape(function(*copy.deepcopy(values))))
