import itertools
import random
import unittest

from pulledpegs.cords import alike_holds, judge_alike
from pulledpegs.errors import BadPromise
from pulledpegs.pairs import lasts_holds
from pulledpegs.promises import against_holds, judge_promise
from pulledpegs.pulled import does_keep, judge_keep, keep_holds
from tests.model import holds, right_promises, room_in
from tests.near import is_exactly, near
from tests.odd import NO_PROMISES, ODD, room_with
from tests.search import all_slides
from tests.sets import all_sets, random_wall
from tests.test_pulled import random_cord

SWAP = ((1, 1), (2, 1), (1, -1), (2, -1))
WALL = ((0, 2, 0), ((1, 3),))
CORDS = {"a": SWAP, "b": ((1, 1), (2, 1)), "c": ((1, 1), (3, 1), (1, -1)), "d": ((3, 1),), "e": (), "f": ((2, 1), (1, 1), (2, 1), (2, 2))}


def right_by_set(wall, cords, promise):
    """All right certificates "set" against a promise "lasts"."""
    _, one, other = promise
    return [("set", pegs) for pegs in all_sets(len(wall[0]))
            if does_keep(wall, cords[other], pegs) and not does_keep(wall, cords[one], pegs)]


def rows_of_slides(chance, wall, cord):
    """Some rows of slides that lead a cord to (), by sliding at random and then as the program tells."""
    for steps in (0, 1, 2, 5):
        row, left = [], cord
        for _ in range(steps):
            found = all_slides(wall, left)
            if found:
                slide, left = chance.choice(found)
                row.append(slide)
        pegs = tuple(range(1, len(wall[0]) + 1))
        yield tuple(row) + judge_keep(wall, left, pegs)[1]


class Promises(unittest.TestCase):
    def check(self, chance, wall, cords, made=()):
        room = room_in(wall, cords)
        for promise in made:
            room.make(promise)
        for promise in right_promises(wall, cords):
            told = judge_promise(room, promise)
            if holds(wall, cords, promise):
                self.assertTrue(is_exactly(told, ("holds",)), promise)
                self.check_that_nothing_is_against(room, promise)
            else:
                self.assertIs(against_holds(room, promise, told), True, (promise, told))
                self.check_against(chance, room, promise, told)

    def check_that_nothing_is_against(self, room, promise):
        wall, cords = room.wall(), dict(room.names())
        word, name, last = promise
        tries = [("holds",), ("lasts",), ("slides", ()), ("rest", ()), ("forms", (), ()), ("set", ()), ("form", ())]
        if word in ("keeps", "falls"):
            # The certificate that the promise holds is none against it.
            tries.append(judge_keep(wall, cords[name], last))
            self.assertIs(keep_holds(wall, cords[name], last, tries[-1]), True)
        else:
            tries.append(judge_alike(wall, cords[name], cords[last]))
            tries += [("set", pegs) for pegs in all_sets(len(wall[0]))]
        if word == "alike":
            self.assertIs(alike_holds(wall, cords[name], cords[last], judge_alike(wall, cords[name], cords[last])), True)
        if word == "lasts":
            self.assertIs(lasts_holds(wall, cords[name], cords[last], ("lasts",)), True)
        for thing in tries:
            self.assertIs(against_holds(room, promise, thing), False, (promise, thing))

    def check_against(self, chance, room, promise, told):
        wall, cords = room.wall(), dict(room.names())
        word, name, last = promise
        if word == "lasts":
            right = right_by_set(wall, cords, promise)
            self.assertIn(told, right)
            for thing in [("set", pegs) for pegs in all_sets(len(wall[0]))]:
                self.assertIs(against_holds(room, promise, thing), thing in right)
        elif word == "keeps":
            left = tuple(pair for pair in cords[name] if pair[0] in last)
            for row in rows_of_slides(chance, wall, left):
                self.assertIs(against_holds(room, promise, ("slides", row)), True)
                self.assertIs(against_holds(room, promise, ("slides", row + (("join", 0),))), False)
        elif word == "alike":
            self.assertTrue(is_exactly(told, judge_alike(wall, cords[name], cords[last])))
            self.assertIs(against_holds(room, promise, (told[0], told[2], told[1])), False)
        else:
            self.assertTrue(is_exactly(told, judge_keep(wall, cords[name], last)))
        for thing in near(told):
            if word != "lasts" and not (word == "keeps" and isinstance(thing, tuple) and thing[:1] == ("slides",)):
                self.assertIs(against_holds(room, promise, thing), False, (promise, thing))

    def test_told_room(self):
        self.check(random.Random(501), WALL, CORDS)

    def test_made_or_not(self):
        made = (("keeps", "a", (1, 2)), ("falls", "a", (1, 3)), ("lasts", "b", "a"), ("alike", "c", "d"), ("lasts", "c", "e"))
        self.check(random.Random(502), WALL, CORDS, made)

    def test_rooms_at_random(self):
        chance = random.Random(503)
        for many in (2, 3, 4):
            for _ in range(4):
                wall = random_wall(chance, many, (0, 0, 2, 3), 0.3)
                half = random_cord(chance, many, 3, (-1, 1))
                cords = {"a": half, "b": half + tuple((peg, -winds) for peg, winds in half), "c": random_cord(chance, many, 5, (-1, 1, 2)),
                         "d": half[:1] + half}
                self.check(chance, wall, cords)

    def test_certificates_of_other_words(self):
        room = room_in(WALL, CORDS)
        told = {word: [judge_promise(room, promise) for promise in right_promises(WALL, CORDS) if promise[0] == word]
                for word in ("alike", "keeps", "falls", "lasts")}
        for promise in right_promises(WALL, CORDS):
            for word in told:
                if word != promise[0]:
                    for thing in told[word][::3]:
                        self.assertIs(against_holds(room, promise, thing), False, (promise, thing))

    def test_wrong_certificates(self):
        room = room_in(WALL, CORDS)
        for promise in (("alike", "a", "b"), ("keeps", "a", (1,)), ("falls", "a", (1, 2)), ("lasts", "a", "b"), ("keeps", "a", (1, 2))):
            for thing in ODD + [("slides", ((("join", 0),),)), ("slides", [("join", 0)]), ("set", [1]), ("set", (True,)), ("rest", list(SWAP)),
                                ["slides", (("join", 0),)], ("slides", (("join", False),)), ("slides", None), ("set", None), (), ("set",),
                                ("slides",), ("rest",), ("forms",), ("forms", (), (), ()), ("rest", ()), ("forms", SWAP, SWAP)]:
                self.assertIs(against_holds(room, promise, thing), False, (promise, thing))
        self.assertIs(against_holds(room, ("keeps", "a", (1,)), ("slides", (("join", 0),))), True)

    def test_what_is_no_promise(self):
        room = room_with((("a", ((1, 1),)), ("b", ((2, 1),))))
        for thing in NO_PROMISES:
            for ask in (lambda: judge_promise(room, thing), lambda: against_holds(room, thing, None),
                        lambda: against_holds(room, thing, ("set", (1,)))):
                with self.assertRaises(BadPromise) as caught:
                    ask()
                self.assertIs(caught.exception.thing, thing)

    def test_next_to_a_promise(self):
        room = room_with((("a", ((1, 1),)), ("b", ((2, 1),)), ("as", ())))
        right = right_promises(room.wall(), dict(room.names()))
        for promise in (("alike", "a", "b"), ("keeps", "a", (1, 3)), ("falls", "b", ()), ("lasts", "b", "a")):
            for thing in itertools.chain([promise], near(promise)):
                if any(is_exactly(thing, other) for other in right):
                    self.assertIn(judge_promise(room, thing)[0], ("holds", "forms", "slides", "rest", "set"))
                else:
                    with self.assertRaises(BadPromise):
                        judge_promise(room, thing)

    def test_the_room_stays(self):
        room = room_with((("a", ((1, 1),)), ("b", ((2, 1),))))
        room.back("a")
        room.undo()
        text = room.text()
        for promise in right_promises(room.wall(), dict(room.names())):
            against_holds(room, promise, judge_promise(room, promise))
            self.assertEqual(judge_promise(room=room, promise=promise), judge_promise(room, promise))
            self.assertIs(against_holds(thing=None, promise=promise, room=room), False)
        self.assertEqual(room.text(), text)
        room.redo()
        self.assertEqual(room.cord_of("a"), ((1, -1),))
