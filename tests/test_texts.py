import random
import re
import unittest

from pulledpegs.errors import BadText, NothingToRedo, NothingToUndo
from pulledpegs.houses import Room
from pulledpegs.texts import read_room
from pulledpegs.walls import wall_of_text, wall_text
from tests.lead import right_changes
from tests.model import Model, check_deed, check_same, holds, right_promises, text_of
from tests.near import is_exactly
from tests.odd import ODD
from tests.sets import random_wall
from tests.test_rooms import Drawn

NUMBER = "(0|-?[1-9][0-9]*)"
WALL_LINE = f"pegs( {NUMBER})+( rails( [1-9][0-9]*-[1-9][0-9]*)+)?"
CORD_LINE = f"cord [a-z]{{1,8}}( {NUMBER}:{NUMBER})*"
PROMISE_LINE = f"promise ((alike|lasts) [a-z]{{1,8}} [a-z]{{1,8}}|(keeps|falls) [a-z]{{1,8}}( {NUMBER})*)"

TEXT = """pegs 0 3 0 2 rails 1-3 2-4
cord a 1:1 2:1 1:-1 2:-1
cord aa
cord ab 1:1 2:4
cord b 1:1 2:10
cord zzzzzzzz 3:-5 4:1
promise keeps a 1 2
promise lasts b a
promise falls a 1 3 4
promise falls aa
promise alike ab b
promise lasts zzzzzzzz aa"""


def wall_in(line):
    """The wall that a line tells, by the document's words; None if it is none."""
    if not re.fullmatch(WALL_LINE, line):
        return None
    slips, _, rails = line[5:].partition(" rails ")
    slips = tuple(map(int, slips.split(" ")))
    rails = tuple(tuple(map(int, rail.split("-"))) for rail in rails.split(" ")) if rails else ()
    right = 1 <= len(slips) <= 10 and all(slip == 0 or 2 <= slip <= 30 for slip in slips)
    right = right and all(len(rail) == 2 and 1 <= rail[0] < rail[1] <= len(slips) for rail in rails)
    return (slips, rails) if right and list(rails) == sorted(set(rails)) else None


def wrong_line(text):
    """The number of the first wrong line, or the state that the text tells."""
    lines = text.split("\n")
    wall, cords, promises = wall_in(lines[0]), {}, []
    if wall is None:
        return 1
    pegs = range(1, len(wall[0]) + 1)
    for number, line in enumerate(lines[1:], start=2):
        words = line.split(" ")
        if re.fullmatch(CORD_LINE, line) and not promises:
            cord = tuple(tuple(map(int, word.split(":"))) for word in words[2:])
            if not all(peg in pegs and winds != 0 for peg, winds in cord) or any(name >= words[1] for name in cords):
                return number
            cords[words[1]] = cord
        elif re.fullmatch(PROMISE_LINE, line):
            last = words[3] if words[1] in ("alike", "lasts") else tuple(map(int, words[3:]))
            promise = (words[1], words[2], last)
            if promise not in right_promises(wall, cords) or promise in promises or not holds(wall, cords, promise):
                return number
            promises.append(promise)
        else:
            return number
    return wall, cords, promises


class Texts(unittest.TestCase):
    def check(self, text):
        due = wrong_line(text)
        if isinstance(due, int):
            with self.assertRaises(BadText, msg=text) as caught:
                read_room(text)
            self.assertTrue(is_exactly(caught.exception.line, due), (text, due, caught.exception.line))
            return due
        room = read_room(text)
        self.assertIs(type(room), Room)
        wall, cords, promises = due
        self.assertTrue(is_exactly((room.wall(), room.names(), room.promises()), (wall, tuple(sorted(cords.items())), tuple(promises))))
        self.assertEqual(room.text(), text)
        self.assertEqual(text_of(*due), text)
        with self.assertRaises(NothingToUndo):
            room.undo()
        with self.assertRaises(NothingToRedo):
            room.redo()
        return 0

    def wrong(self, text, line):
        self.assertEqual(self.check(text), line, text)

    def test_right_texts(self):
        for text in (TEXT, "pegs 0", "pegs 30 2 rails 1-2", "pegs 0\ncord a", "pegs 0\ncord abcdefgh 1:-100", "pegs 0\ncord a\npromise falls a",
                     "pegs 0\ncord a\ncord b\npromise alike a b", "pegs 0\ncord a\ncord b\npromise lasts b a\npromise lasts a b",
                     "pegs 0\ncord a 1:1 1:1\npromise keeps a 1", "pegs " + " ".join(["0"] * 10) + "\ncord q 10:1", "pegs 2\ncord a 1:7"):
            self.wrong(text, 0)

    def test_lines_wrong(self):
        for line, text in ((1, ""), (1, "\n"), (1, "pegs"), (1, "pegs 1"), (1, " pegs 0"), (1, "pegs 0 "), (1, "cord a\npegs 0"), (1, "pegs 00"),
                           (1, "pegs +0"), (1, "pegs -0"), (1, "pegs  0"), (1, "Pegs 0"), (1, "pegs 0 rails"), (1, "pegs 0 0 rails 2-1"),
                           (1, "\npegs 0"), (2, "pegs 0\n"), (2, "pegs 0\n\n"), (2, "pegs 0\npegs 0"), (2, "pegs 0\n "), (3, "pegs 0\ncord a\n"),
                           (2, "pegs 0\n\ncord a"), (2, "pegs 0\ncord"), (2, "pegs 0\ncord "), (2, "pegs 0\ncord a "), (2, "pegs 0\n cord a"),
                           (2, "pegs 0\ncord  a"), (2, "pegs 0\ncord A"), (2, "pegs 0\ncord abcdefghi"), (2, "pegs 0\ncord a1"),
                           (2, "pegs 0\ncord a 1"), (2, "pegs 0\ncord a 1:"), (2, "pegs 0\ncord a :1"), (2, "pegs 0\ncord a 1:0"),
                           (2, "pegs 0\ncord a 1:-0"), (2, "pegs 0\ncord a 1:+1"), (2, "pegs 0\ncord a 1:01"), (2, "pegs 0\ncord a 01:1"),
                           (2, "pegs 0\ncord a -1:1"), (2, "pegs 0\ncord a 0:1"), (2, "pegs 0\ncord a 2:1"), (2, "pegs 0\ncord a 1:1:1"),
                           (2, "pegs 0\ncord a 1:--1"), (2, "pegs 0\ncord a 1:1-"), (2, "pegs 0\ncord a 1:1_0"), (2, "pegs 0\ncord a 1:-"),
                           (2, "pegs 0\ncord a 1: 1"), (2, "pegs 0\ncord a  1:1"), (2, "pegs 0\ncord a 1:1  1:1"), (2, "pegs 0\ncord a 1:1,1:1"),
                           (2, "pegs 0\ncord a " + "1" * 50 + ":1"), (3, "pegs 0\ncord a\ncord a"), (3, "pegs 0\ncord b\ncord a"),
                           (4, "pegs 0\ncord a\ncord b\ncord ab"), (2, "pegs 0\nCord a"), (2, "pegs 0\ncords a"), (2, "pegs 0\npromise"),
                           (2, "pegs 0\npromise falls a"), (2, "pegs 0\npromise falls a\ncord a"), (4, "pegs 0\ncord a\npromise falls a\ncord b"),
                           (3, "pegs 0\ncord a\npromise keeps a"), (3, "pegs 0\ncord a\npromise keeps a 1"), (3, "pegs 0\ncord a\npromise falls"),
                           (3, "pegs 0\ncord a\npromise falls a "), (3, "pegs 0\ncord a\npromise falls a 2"), (3, "pegs 0\ncord a\npromise"),
                           (3, "pegs 0\ncord a\npromise falls a 0"), (3, "pegs 0\ncord a\npromise falls a 01"), (3, "pegs 0\ncord a\npromise "),
                           (3, "pegs 0\ncord a\npromise falls a 1 1"), (3, "pegs 0\ncord a\npromise falls  a"), (3, "pegs 0\ncord a\npromise falls b"),
                           (4, "pegs 0\ncord a\npromise falls a\npromise falls a"), (3, "pegs 0\ncord a\npromise hangs a"),
                           (3, "pegs 0\ncord a\npromise falls a " + "1" * 50), (3, "pegs 0\ncord a\npromise lasts a a"),
                           (3, "pegs 0\ncord a\npromise alike a a"), (3, "pegs 0\ncord a\npromise alike a"), (3, "pegs 0\ncord a\npromise lasts a"),
                           (4, "pegs 0\ncord a\ncord b\npromise alike b a"), (4, "pegs 0\ncord a\ncord b\npromise alike a b b"),
                           (4, "pegs 0\ncord a\ncord b\npromise alike a b "), (4, "pegs 0\ncord a\ncord b 1:1\npromise alike a b"),
                           (4, "pegs 0\ncord a\ncord b 1:1\npromise lasts a b"), (4, "pegs 0\ncord a\ncord b\npromise lasts a 1"),
                           (3, "pegs 0 0\ncord a\npromise falls a 2 1"), (3, "pegs 0\ncord a\npromise Falls a"), (3, "pegs 0\ncord a\nPromise falls a"),
                           (5, "pegs 0\ncord a\ncord b\npromise alike a b\npromise keeps a\ncord c\nx"), (1, "pegs 0\r\ncord a")):
            self.wrong(text, line)

    def test_values_that_are_no_strings(self):
        for thing in [thing for thing in ODD if not isinstance(thing, str)] + [b"pegs 0", ("pegs 0",), ["pegs 0"], Room(((0,), ()))]:
            with self.assertRaises(BadText) as caught:
                read_room(thing)
            self.assertTrue(is_exactly(caught.exception.line, 0))
        for thing in [thing for thing in ODD if isinstance(thing, str)]:
            self.wrong(thing, 1)

    def test_one_sign_changed_put_in_or_left_out(self):
        signs = "01239:- apz\n_+A,"
        found = set()
        for text in (TEXT, "pegs 0 2\ncord a 1:1\ncord b 2:11\npromise keeps a 1 2\npromise falls b 1"):
            for at in range(len(text) + 1):
                found.add(self.check(text[:at] + text[at + 1:]))
                for sign in signs:
                    found.add(self.check(text[:at] + sign + text[at:]))
                    found.add(self.check(text[:at] + sign + text[at + 1:]))
        self.assertGreaterEqual(len(found), 12)

    def test_lines_twice_missing_and_exchanged(self):
        lines = TEXT.split("\n")
        for at in range(len(lines)):
            self.check("\n".join(lines[:at] + lines[at + 1:]))
            self.check("\n".join(lines[:at] + [""] + lines[at:]))
            for other in range(len(lines)):
                self.check("\n".join(lines[:at] + [lines[other]] + lines[at:]))
                self.check("\n".join(lines[:at] + [lines[other]] + lines[at + 1:]))
                row = list(lines)
                row[at], row[other] = row[other], row[at]
                self.check("\n".join(row))
        self.check("\n".join(lines + [""]))
        self.check("\r\n".join(lines))

    def test_read_back(self):
        seen = set()
        for seed in range(25):
            chance = random.Random(600 + seed)
            model = Model(random_wall(chance, chance.choice((2, 3, 4)), (0, 0, 4, 30), 0.3))
            room = Room(model.state[0])
            for _ in range(60):
                check_deed(self, room, model, *Drawn(chance, model).deed())
                self.wrong(room.text(), 0)
                other = read_room(text=room.text())
                check_same(self, other, model)
                self.assertEqual([room.is_same(other), other.is_same(room)], [True, True])
                seen.add((len(room.names()), len(room.promises())))
        self.assertGreater(len(seen), 15)

    def test_what_is_read_goes_on(self):
        room, model = read_room(TEXT), Model(wall_of_text(TEXT.split("\n")[0]))
        model.state = wrong_line(TEXT)
        check_same(self, room, model)
        for deed in (("back", "aa"), ("back", "a"), ("drop", ("lasts", "b", "a")), ("undo",), ("leave", "b"), ("undo",), ("redo",), ("undo",),
                     ("undo",), ("undo",), ("change", ("carry", 1, 4)), ("put", "c", ((4, 9),)), ("make", ("keeps", "c", (2, 4)))):
            check_deed(self, room, model, *deed)

    def test_numbers_of_many_digits(self):
        for digits in (50, 1900):
            self.wrong("pegs 0\ncord a 1:-" + "1" * digits, 0)
            self.wrong("pegs 0\ncord a 1:0" + "1" * digits, 2)
        # Python does not read them.
        for text in ("pegs 0\ncord a 1:" + "1" * 5000, "pegs 0\ncord a " + "1" * 5000 + ":1", "pegs 0\ncord a\npromise falls a " + "1" * 5000):
            with self.assertRaises(BadText):
                read_room(text)

    def test_texts_of_walls(self):
        chance = random.Random(604)
        for many in range(1, 11):
            wall = random_wall(chance, many)
            self.assertEqual(wall_of_text(wall_text(wall)), wall)
            self.assertEqual(Room(wall).text(), wall_text(wall))
            self.wrong(wall_text(wall), 0)
            for change in right_changes(wall):
                if change[0] in ("rail", "wear"):
                    room = Room(wall)
                    room.change(change)
                    self.wrong(room.text(), 0)
