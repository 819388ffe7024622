"""Each function by position and by name, and each wrong value in the place of each argument."""

import copy
import inspect
import itertools
import unittest

from pulledpegs import cords, rounds, walls
from pulledpegs.errors import BadCord, BadSet, BadSlide, BadText, BadWall
from tests.odd import NO_CORDS, NO_SETS, NO_SLIDES, NO_WALLS, ODD

WALL = ((0, 2, 3, 0), ((1, 3), (2, 4)))
ONE = ((1, 1), (3, 2), (2, 1), (1, -1))
OTHER = ((3, 2), (1, 1), (2, 1), (1, -1))

WALL_ROW = ("wall", WALL, BadWall, NO_WALLS)
CORD_ROW = ("cord", ONE, BadCord, NO_CORDS)
SET_ROW = ("pegs", (1, 2, 4), BadSet, NO_SETS)
TWO_ROWS = [WALL_ROW, ("one", ONE, BadCord, NO_CORDS), ("other", OTHER, BadCord, NO_CORDS)]

# Each function with its parameters in their order: the name, a right value, the error for a wrong one, wrong values.
CALLS = [
    (walls.is_right, [("thing", WALL, None, NO_WALLS)], True),
    (walls.is_set, [WALL_ROW, ("thing", (1, 2, 4), None, NO_SETS)], True),
    (walls.are_tied, [WALL_ROW, ("i", 1, None, []), ("j", 2, None, [])], True),
    (walls.hangs_together, [WALL_ROW, SET_ROW], True),
    (walls.parts_of, [WALL_ROW, SET_ROW], ((1, 2, 4),)),
    (walls.wall_text, [WALL_ROW], "pegs 0 2 3 0 rails 1-3 2-4"),
    (walls.wall_of_text, [("text", "pegs 0 2 3 0 rails 1-3 2-4", BadText, ODD + [WALL])], WALL),
    (cords.is_cord, [WALL_ROW, ("thing", ONE, None, NO_CORDS)], True),
    (cords.slid, [WALL_ROW, CORD_ROW, ("slide", ("past", 0), BadSlide, NO_SLIDES)], OTHER),
    (cords.form_of, [WALL_ROW, CORD_ROW], ONE),
    (cords.length_of, [WALL_ROW, CORD_ROW], 4),
    (cords.back, [WALL_ROW, CORD_ROW], ((1, 1), (2, -1), (3, -2), (1, -1))),
    (cords.behind, TWO_ROWS, ONE + OTHER),
    (cords.swap, TWO_ROWS, ONE + OTHER + ((1, 1), (2, -1), (3, -2), (1, -1)) + ((1, 1), (2, -1), (1, -1), (3, -2))),
    (cords.are_alike, TWO_ROWS, True),
    (cords.judge_alike, TWO_ROWS, ("form", ONE)),
    (cords.alike_holds, TWO_ROWS + [("thing", ("form", ONE), None, ODD)], True),
    (rounds.round_form, [WALL_ROW, CORD_ROW], ((2, 1), (3, 2))),
    (rounds.judge_round, TWO_ROWS, None),
    (rounds.round_holds, TWO_ROWS + [("thing", ("cord", ()), None, ODD)], True),
    (rounds.is_round, TWO_ROWS, True),
]

LISTED = {
    walls: ["is_right", "is_set", "are_tied", "hangs_together", "parts_of", "wall_text", "wall_of_text"],
    cords: ["is_cord", "slid", "form_of", "length_of", "back", "behind", "swap", "are_alike", "judge_alike", "alike_holds"],
    rounds: ["round_form", "judge_round", "round_holds", "is_round"],
}


class Calls(unittest.TestCase):
    def test_all_functions_are_here_and_defined_where_they_are_listed(self):
        called = [function for function, _, _ in CALLS]
        for module, names in LISTED.items():
            for name in names:
                self.assertIn(getattr(module, name), called)
                self.assertEqual(getattr(module, name).__module__, module.__name__)
        self.assertEqual(len(called), sum(len(names) for names in LISTED.values()))

    def test_by_position_and_by_name(self):
        for function, rows, due in CALLS:
            names = [row[0] for row in rows]
            values = [row[1] for row in rows]
            self.assertEqual(list(inspect.signature(function).parameters), names)
            result = function(*values)
            if due is not None:
                self.assertEqual((type(result), result), (type(due), due), function)
            self.assertEqual(function(**dict(zip(names, values))), result)
            self.assertEqual(function(**dict(reversed(list(zip(names, values))))), result)
            for cut in range(len(rows)):
                self.assertEqual(function(*values[:cut], **dict(zip(names[cut:], values[cut:]))), result)

    def check_error(self, function, values, error, value):
        with self.assertRaises(error) as caught:
            function(*values)
        self.assertIs(type(caught.exception), error)
        (attribute,) = vars(caught.exception).values()
        if error is BadText:
            self.assertEqual(attribute, 0)
        else:
            self.assertIs(attribute, value)

    def test_one_wrong_value(self):
        for function, rows, _ in CALLS:
            for at, (_, _, error, wrong) in enumerate(rows):
                for value in wrong:
                    values = [row[1] for row in rows]
                    values[at] = value
                    if error is None:
                        self.assertIs(function(*values), False, (function, value))
                    else:
                        self.check_error(function, values, error, value)

    def test_the_first_of_several_wrong_values(self):
        for function, rows, _ in CALLS:
            due = [at for at, row in enumerate(rows) if row[2] is not None]
            for first in due:
                later = [at for at in range(first + 1, len(rows)) if rows[at][3]]
                for value in rows[first][3][::5]:
                    for chosen in itertools.product((False, True), repeat=len(later)):
                        values = [row[1] for row in rows]
                        values[first] = value
                        for at, is_wrong in zip(later, chosen):
                            if is_wrong:
                                values[at] = rows[at][3][len(rows[at][3]) // 2 + at]
                        self.check_error(function, values, rows[first][2], value)

    def test_the_first_of_two_cords(self):
        for function, rows, _ in CALLS:
            if rows[:3] == TWO_ROWS:
                rest = [row[1] for row in rows[3:]]
                for one, other in itertools.product(NO_CORDS[::4], repeat=2):
                    self.check_error(function, [WALL, one, other] + rest, BadCord, one)

    def test_what_fits_another_wall_is_wrong(self):
        small = ((0, 2), ())
        for function, rows, _ in CALLS:
            if len(rows) > 1 and rows[1][2] is not None:
                values = [small] + [row[1] for row in rows[1:]]
                self.check_error(function, values, rows[1][2], values[1])

    def test_walls_are_no_cords_and_cords_no_walls(self):
        for function, rows, _ in CALLS:
            values = [row[1] for row in rows]
            for at, (_, _, error, _) in enumerate(rows):
                if error in (BadWall, BadCord, BadSet, BadSlide):
                    wrong = ONE if error is BadWall else WALL
                    self.check_error(function, values[:at] + [wrong] + values[at + 1:], error, wrong)

    def test_no_argument_is_changed(self):
        for function, rows, _ in CALLS:
            for at, (_, _, _, wrong) in enumerate(rows):
                for value in wrong:
                    kept = copy.deepcopy(value)
                    values = [row[1] for row in rows]
                    values[at] = value
                    try:
                        function(*values)
                    except (BadWall, BadCord, BadSet, BadSlide, BadText):
                        pass
                    self.assertEqual(repr(value), repr(kept))

    def test_equality_never_raises(self):
        for one, other in itertools.product([BadWall(1), BadWall(1), BadText(0)] + ODD, repeat=2):
            self.assertIs(one == other, not one != other)

    def test_the_same_call_returns_the_same(self):
        for function, rows, _ in CALLS:
            values = [row[1] for row in rows]
            self.assertEqual(function(*values), function(*copy.deepcopy(values)))
