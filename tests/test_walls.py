import itertools
import unittest

from pulledpegs.errors import BadText
from pulledpegs.walls import are_tied, hangs_together, is_right, is_set, parts_of, wall_of_text, wall_text
from tests.odd import NO_SETS, NO_WALLS, ODD

ALL_RAILS = tuple(itertools.combinations(range(1, 11), 2))


def webs(many):
    """All walls of so many pegs without slip numbers."""
    rails = list(itertools.combinations(range(1, many + 1), 2))
    for chosen in itertools.product((False, True), repeat=len(rails)):
        yield ((0,) * many, tuple(rail for rail, is_in in zip(rails, chosen) if is_in))


def all_sets(many):
    for size in range(many + 1):
        yield from itertools.combinations(range(1, many + 1), size)


def can_come(wall, pegs, i, j):
    """Whether one can come from i to j along tied pegs of the set: tried by all rows of unlike pegs."""
    between = [peg for peg in pegs if peg not in (i, j)]
    for size in range(len(between) + 1):
        for row in itertools.permutations(between, size):
            way = (i,) + row + (j,)
            if all(tuple(sorted(step)) not in wall[1] for step in zip(way, way[1:])):
                return True
    return False


class Right(unittest.TestCase):
    def test_walls(self):
        for wall in (((0,), ()), ((0,) * 10, ()), ((2,), ()), ((30,), ()), ((2, 3, 30, 0), ()), ((0,) * 10, ALL_RAILS),
                     ((30,) * 10, ALL_RAILS), ((0, 0), ((1, 2),)), ((0, 0, 0), ((1, 2), (1, 3), (2, 3))),
                     (tuple(range(2, 12)), ((1, 10), (9, 10)))):
            self.assertIs(is_right(wall), True, wall)
            self.assertIs(is_right(thing=wall), True, wall)

    def test_no_walls(self):
        for thing in NO_WALLS:
            self.assertIs(is_right(thing), False, thing)

    def test_slip_numbers(self):
        for slip in range(-40, 41):
            self.assertIs(is_right(((0, slip), ())), slip == 0 or 2 <= slip <= 30, slip)

    def test_how_many_pegs(self):
        for many in range(13):
            self.assertIs(is_right(((0,) * many, ())), 1 <= many <= 10, many)

    def test_rails_of_three_pegs(self):
        right = {((1, 2),), ((1, 3),), ((2, 3),), ((1, 2), (1, 3)), ((1, 2), (2, 3)), ((1, 3), (2, 3))}
        for size in (1, 2):
            for rails in itertools.product(itertools.product(range(5), repeat=2), repeat=size):
                self.assertIs(is_right(((0, 0, 0), rails)), rails in right, rails)


class Sets(unittest.TestCase):
    def test_sets(self):
        wall = ((0, 2, 3, 0), ((1, 3),))
        for size in range(4):
            for pegs in itertools.product(range(-1, 6), repeat=size):
                due = pegs == tuple(sorted(set(pegs) & {1, 2, 3, 4}))
                self.assertIs(is_set(wall, pegs), due, pegs)
        self.assertIs(is_set(wall, (1, 2, 3, 4)), True)
        self.assertIs(is_set(((0,) * 10, ()), tuple(range(1, 11))), True)
        self.assertIs(is_set(((0,),  ()), ()), True)

    def test_no_sets(self):
        for thing in NO_SETS:
            self.assertIs(is_set(((0, 0, 0, 0), ()), thing), False, thing)


class Together(unittest.TestCase):
    def test_tied(self):
        for wall in webs(4):
            for i, j in itertools.permutations(range(1, 5), 2):
                self.assertIs(are_tied(wall, i, j), tuple(sorted((i, j))) not in wall[1])

    def test_hangs_together(self):
        for wall in webs(4):
            for pegs in all_sets(4):
                due = pegs != () and all(can_come(wall, pegs, i, j) for i, j in itertools.combinations(pegs, 2))
                self.assertIs(hangs_together(wall, pegs), due, (wall, pegs))

    def test_parts(self):
        for wall in webs(4):
            for pegs in all_sets(4):
                parts = set()
                for i in pegs:
                    parts.add(tuple(j for j in pegs if j == i or can_come(wall, pegs, i, j)))
                self.assertEqual(parts_of(wall, pegs), tuple(sorted(parts)), (wall, pegs))

    def test_edges(self):
        for wall in (((0,) * 10, ()), ((7,) * 10, ())):
            self.assertEqual(parts_of(wall, tuple(range(1, 11))), (tuple(range(1, 11)),))
            self.assertEqual(parts_of(wall, ()), ())
            self.assertIs(hangs_together(wall, ()), False)
        wall = ((0,) * 10, ALL_RAILS)
        self.assertEqual(parts_of(wall, tuple(range(1, 11))), tuple((peg,) for peg in range(1, 11)))
        self.assertIs(hangs_together(wall, tuple(range(1, 11))), False)
        self.assertIs(hangs_together(wall, (10,)), True)
        self.assertIs(hangs_together(((0,), ()), (1,)), True)

    def test_a_long_way_round(self):
        # Only pegs next to one another in this ring are tied, so the ways are as long as they can be.
        ring = [1, 6, 2, 7, 3, 8, 4, 9, 5, 10]
        ties = {tuple(sorted(pair)) for pair in zip(ring, ring[1:])}
        wall = ((0,) * 10, tuple(rail for rail in ALL_RAILS if rail not in ties))
        self.assertIs(hangs_together(wall, tuple(range(1, 11))), True)
        self.assertEqual(parts_of(wall, (1, 2, 3, 4, 6, 8, 9, 10)), ((1, 2, 6), (3, 4, 8, 9), (10,)))


class Texts(unittest.TestCase):
    def test_texts(self):
        for text, wall in (
                ("pegs 0", ((0,), ())), ("pegs 30", ((30,), ())), ("pegs 0 2 0 0 rails 1-3 2-4", ((0, 2, 0, 0), ((1, 3), (2, 4)))),
                ("pegs 0 0 0 0 0 0 0 0 0 2 rails 1-10 2-3 9-10", ((0,) * 9 + (2,), ((1, 10), (2, 3), (9, 10))))):
            self.assertEqual(wall_text(wall), text)
            self.assertEqual(wall_of_text(text), wall)
            self.assertEqual(wall_of_text(text=wall_text(wall=wall)), wall)

    def test_there_and_back(self):
        for many in (1, 2, 3, 4):
            for _, rails in webs(many):
                for slips in ((0,) * many, (2,) * many, tuple(range(27, 27 + many))):
                    wall = (slips, rails)
                    if is_right(wall):
                        self.assertEqual(wall_of_text(wall_text(wall)), wall)
        for wall in (((0,) * 10, ALL_RAILS), ((30, 0) * 5, ALL_RAILS[1:]), ((0,) * 10, ())):
            self.assertEqual(wall_of_text(wall_text(wall)), wall)

    def bad(self, text):
        with self.assertRaises(BadText) as caught:
            wall_of_text(text)
        self.assertEqual(vars(caught.exception), {"line": 0}, text)
        self.assertIs(type(caught.exception.line), int)

    def test_no_texts(self):
        for text in (
                "", " ", "pegs", "pegs ", " pegs 0", "pegs 0 ", "pegs  0", "pegs 0  0", "pegs 0 0 rails", "pegs 0 0 rails ",
                "pegs 0 0  rails 1-2", "pegs 0 0 rails  1-2", "pegs 0 0 rails 1-2 ", "pegs +0", "pegs -0", "pegs +2", "pegs 02",
                "pegs 00", "pegs 1", "pegs 31", "pegs -2", "pegs 2.0", "pegs 1_0", "pegs a", "PEGS 0", "Pegs 0", "peg 0",
                "pegs 0 0 rails 1-1", "pegs 0 0 rails 2-1", "pegs 0 0 rails 1-3", "pegs 0 0 rails 0-1", "pegs 0 0 rails 1-2 1-2",
                "pegs 0 0 0 rails 1-3 1-2", "pegs 0 0 0 rails 2-3 1-2", "pegs 0 0 rails 01-2", "pegs 0 0 rails 1-02",
                "pegs 0 0 rails 1-+2", "pegs 0 0 rails +1-2", "pegs 0 0 rails 1--2", "pegs 0 0 rails 1-", "pegs 0 0 rails -2",
                "pegs 0 0 rails 12", "pegs 0 0 rails 1-2-3", "pegs 0 0 rails 1 - 2", "pegs 0 0 rails 1- 2", "pegs 0 0 rails 1,2",
                "pegs 0 0 rail 1-2", "pegs 0 0 1-2", "rails 1-2", "rails", "pegs rails 1-2", "pegs 0 0 rails rails 1-2",
                "pegs 0 0 rails 1-2 rails 1-2", "pegs 0 0 rails 1-2 rails", "pegs 0 0\n", "\npegs 0 0", "pegs\n0 0", "pegs 0\n0",
                "pegs 0 0 rails\n1-2", "pegs 0 0 rails 1-2\n", "pegs 0 pegs 0", "pegs" + " 0" * 11, "pegs" + " 0" * 900,
                "pegs " + "1" * 1900, "pegs 0 0 rails " + "1" * 900 + "-" + "2" * 900, "pegs 0" + " " * 1900, "pegs 0,0"):
            self.bad(text)

    def test_longer_than_python_reads(self):
        # Python refuses to read an integer of more than 4300 digits, by an error of its own.
        self.bad("pegs " + "2" * 5000)
        self.bad("pegs 0 0 rails 1-" + "0" * 5000 + "2")

    def test_each_sign_matters(self):
        right = "pegs 0 12 0 rails 1-3 2-3"
        wall_of_text(right)
        for at in range(len(right)):
            for sign in ("", "  ", "+", "-", "00", "\n", "~", "x"):
                text = right[:at] + sign + right[at + 1:]
                try:
                    self.assertEqual(wall_text(wall_of_text(text)), text)
                except BadText as error:
                    self.assertEqual(error.line, 0)

    def test_rails_are_text_too(self):
        for text in ("pegs 0 0 rails 1-2", "pegs 2 30"):
            for thing in (text.encode(), [text], (text,), {text: 1}, text.split(" ")):
                self.bad(thing)

    def test_values_of_other_kinds(self):
        for thing in ODD:
            self.bad(thing)
        self.bad(((0, 0), ()))
