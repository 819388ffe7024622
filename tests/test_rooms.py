import inspect
import itertools
import random
import unittest

from pulledpegs import houses
from pulledpegs.errors import BadChange, BadCord, BadName, BadPromise, BadWall, Broken, Here, NoName, NothingToRedo, NothingToUndo
from pulledpegs.houses import Room
from pulledpegs.promises import against_holds, judge_promise
from tests.lead import right_changes
from tests.model import Model, check_deed, check_error, check_same, holds, right_promises
from tests.near import near, shape
from tests.odd import NO_CHANGES, NO_CORDS, NO_NAMES, NO_PROMISES, NO_WALLS, ODD, ROOM, room_with
from tests.sets import random_wall
from tests.test_pulled import random_cord

FREE = ((0, 0, 0), ())
SWAP = ((1, 1), (2, 1), (1, -1), (2, -1))
DEEDS = ["put", "behind", "swap", "back", "change", "leave", "make", "drop", "undo", "redo"]

METHODS = {
    "wall": [], "names": [], "cord_of": ["name"], "promises": [], "put": ["name", "cord"], "behind": ["name", "one", "other"],
    "swap": ["name", "one", "other"], "back": ["name"], "change": ["change"], "leave": ["name"], "make": ["thing"], "drop": ["thing"],
    "undo": [], "redo": [], "copied": [], "text": [], "is_same": ["thing"],
}


class Drawn:
    """Deeds that are drawn at random, mostly right ones."""

    def __init__(self, chance, model):
        self.chance = chance
        self.model = model

    def name(self):
        cords = self.model.state[1]
        if cords and self.chance.random() < 0.95:
            return self.chance.choice(sorted(cords))
        return self.chance.choice(("a", "b", "zz", "q", "", "A", None, ("a",)))

    def deed(self):
        word = self.chance.choice(DEEDS + ["put", "put", "put", "make", "make", "change"])
        return (word,) + tuple(getattr(self, word)())

    def put(self):
        name = self.chance.choice(("a", "b", "cc", "abcdefgh", "z", "m", "q", self.chance.choice(("A", "abcdefghi", "", 3))))
        many = len(self.model.state[0][0])
        drawn = [random_cord(self.chance, many, 4, winds) for winds in ((-2, -1, 1, 2), (2, 4), (1,))]
        cord = self.chance.choice(drawn + [SWAP, SWAP, (), self.chance.choice((((9, 1),), None))])
        return name, cord

    def small(self, most, *names):
        cords = self.model.state[1]
        return all(name in cords and len(cords[name]) <= most for name in names if isinstance(name, str))

    def behind(self, most=8):
        for _ in range(20):
            names = self.name(), self.name(), self.name()
            if self.small(most, *names[1:]):
                return names
        return "nobody", "a", "b"

    def swap(self):
        return self.behind(4)

    def back(self):
        return [self.name()]

    def leave(self):
        return [self.name() if self.chance.random() < 0.3 else "nobody"]

    def change(self):
        wall, cords, _ = self.model.state
        if self.chance.random() < 0.2:
            return [self.chance.choice((("rail", 2, 1), ("double", 1), ("bring", 1, 2), None, ("wear", 1, 1), ("carry", 1, 1)))]
        changes = sorted(right_changes(wall))
        # Behind a carry a cord may have three times as many pairs.
        word = self.chance.choice(("rail", "wear", "carry") if self.small(5, *cords) else ("rail", "wear"))
        # Pegs that are worn far, so that winds slip off.
        drawn = [change for change in changes if change[0] == word and change[2] < 5]
        return [self.chance.choice(drawn or [None])]

    def make(self):
        wall, cords, promises = self.model.state
        right = right_promises(wall, cords)
        if not right or len(promises) > 7 or self.chance.random() < 0.1:
            return [self.chance.choice((("alike", "a", "a"), ("keeps", "nobody", ()), None, ("lasts", "b", "b")) + tuple(promises))]
        word = self.chance.choice(("alike", "keeps", "falls", "lasts"))
        if self.chance.random() < 0.7:
            right = [promise for promise in right if holds(wall, cords, promise)] or right
        return [self.chance.choice([promise for promise in right if promise[0] == word] or right)]

    def drop(self):
        promises = self.model.state[2]
        if promises and self.chance.random() < 0.5:
            return [self.chance.choice(promises)]
        return [self.chance.choice((("keeps", "a", (1,)), ("alike", "a", "b"), None))]

    def undo(self):
        return ()

    def redo(self):
        return ()


class DrawnDeeds(unittest.TestCase):
    def test_long_rows(self):
        seen = set()
        for seed in range(40):
            chance = random.Random(400 + seed)
            wall = random_wall(chance, chance.choice((2, 3, 4)), (0, 0, 4, 6), 0.2)
            room, model = Room(wall), Model(wall)
            for _ in range(250):
                deed = Drawn(chance, model).deed()
                seen.add((deed[0], check_deed(self, room, model, *deed)))
            self.back_and_forth(room, model)
        self.assertLessEqual({(word, None) for word in DEEDS}, seen)
        self.assertLessEqual({(word, "Broken") for word in ("behind", "swap", "change", "make")}, seen)
        self.assertLessEqual({("put", "BadName"), ("put", "Here"), ("put", "BadCord"), ("leave", "NoName"), ("change", "BadChange"),
                              ("make", "BadPromise"), ("drop", "BadPromise"), ("redo", "NothingToRedo")}, seen)

    def back_and_forth(self, room, model):
        for word in ("undo", "redo", "undo"):
            while check_deed(self, room, model, word) is None:
                pass
        self.assertEqual((room.names(), room.promises()), ((), ()))

    def test_copies_at_random(self):
        for seed in range(20):
            chance = random.Random(480 + seed)
            rooms = [(Room(FREE), Model(FREE))]
            for _ in range(120):
                room, model = chance.choice(rooms)
                if len(rooms) < 4 and chance.random() < 0.05:
                    rooms.append((room.copied(), model.copied()))
                check_deed(self, room, model, *Drawn(chance, model).deed())
                for other, its in rooms:
                    check_same(self, other, its)
            for room, model in rooms:
                self.back_and_forth(room, model)


class Rooms(unittest.TestCase):
    def test_the_class(self):
        self.assertEqual(Room.__module__, houses.__name__)
        self.assertEqual(list(inspect.signature(Room).parameters), ["wall"])
        for word, names in METHODS.items():
            self.assertIn(word, vars(Room))
            self.assertEqual(list(inspect.signature(getattr(Room, word)).parameters), ["self"] + names)

    def test_a_new_room(self):
        for wall in (FREE, ((0,) * 10, ()), ((30,), ()), ((2, 0), ((1, 2),))):
            for room in (Room(wall), Room(wall=wall)):
                self.assertEqual((room.wall(), room.names(), room.promises()), (wall, (), ()))
                self.assertIs(room.wall(), wall)
                with self.assertRaises(NothingToUndo):
                    room.undo()
                with self.assertRaises(NothingToRedo):
                    room.redo()
        for wall in NO_WALLS:
            with self.assertRaises(BadWall) as caught:
                Room(wall)
            self.assertIs(caught.exception.thing, wall)

    def test_by_name(self):
        room = Room(wall=FREE)
        room.put(cord=((1, 1),), name="a")
        room.put(name="b", cord=((2, 1),))
        room.swap(other="b", one="a", name="a")
        self.assertEqual(room.cord_of(name="a"), SWAP)
        room.behind(other="b", name="b", one="a")
        self.assertEqual(room.cord_of(name="b"), SWAP + ((2, 1),))
        room.back(name="b")
        room.change(change=("rail", 2, 3))
        room.make(thing=("keeps", "a", (1, 2)))
        self.assertIs(room.is_same(thing=room.copied()), True)
        room.drop(thing=("keeps", "a", (1, 2)))
        room.leave(name="b")
        self.assertEqual(room.text(), "pegs 0 0 0 rails 2-3\ncord a 1:1 2:1 1:-1 2:-1")

    def test_one_name_again_and_again(self):
        for names in itertools.product(("a", "b", "c"), repeat=3):
            for word in ("behind", "swap"):
                room = room_with((("a", ((1, 1), (2, 1))), ("b", ((2, 3),)), ("c", ())))
                model = Model(room.wall())
                for name, cord in room.names():
                    model.do("put", name, cord)
                for _ in range(2):
                    check_deed(self, room, model, word, *names)
                for _ in range(2):
                    check_deed(self, room, model, "undo")

    def test_undo_and_redo_over_all_deeds(self):
        room = Room(FREE)
        deeds = [("put", "a", ((1, 1),)), ("put", "b", ((2, 1),)), ("swap", "a", "a", "b"), ("make", ("keeps", "a", (1, 2))),
                 ("change", ("wear", 3, 2)), ("behind", "b", "b", "b"), ("make", ("lasts", "b", "a")), ("back", "a"),
                 ("change", ("carry", 3, 1)), ("drop", ("keeps", "a", (1, 2))), ("make", ("falls", "a", (3,))), ("leave", "a"),
                 ("leave", "b"), ("put", "a", ())]
        told = [room.text()]
        for word, *values in deeds:
            self.assertIsNone(getattr(room, word)(*values))
            told.append(room.text())
        self.assertEqual(len(set(told)), len(told) - 1)
        for _ in range(2):
            for at in range(len(deeds) - 1, -1, -1):
                self.assertIsNone(room.undo())
                self.assertEqual(room.text(), told[at])
            with self.assertRaises(NothingToUndo):
                room.undo()
            for at in range(1, len(told)):
                self.assertIsNone(room.redo())
                self.assertEqual(room.text(), told[at])
            with self.assertRaises(NothingToRedo):
                room.redo()

    def test_a_deed_that_changes_nothing_is_a_deed(self):
        room = room_with((("a", ()), ("b", ((1, 1),))))
        room.undo()
        room.back("a")
        with self.assertRaises(NothingToRedo):
            room.redo()
        for deed in (lambda: room.change(("carry", 1, 2)), lambda: room.behind("a", "a", "a"), lambda: room.swap("a", "a", "a")):
            deed()
        for _ in range(5):
            self.assertEqual(room.names(), (("a", ()),))
            room.undo()
        self.assertEqual(room.names(), ())

    def test_a_wrong_deed_is_none(self):
        room = room_with((("a", ((1, 1),)), ("b", ((2, 1),))))
        room.make(("keeps", "a", (1,)))
        room.back("b")
        room.undo()
        text = room.text()
        wrong = [lambda: room.put("a", ()), lambda: room.put("A", ()), lambda: room.put("c", None), lambda: room.behind("a", "b", "c"),
                 lambda: room.swap("a", "a", "a"), lambda: room.behind("a", "b", "b"), lambda: room.back("c"), lambda: room.leave("c"),
                 lambda: room.change(("rail", 1, 1)), lambda: room.make(("falls", "a", (1,))), lambda: room.make(("keeps", "a", (1,))),
                 lambda: room.drop(("keeps", "a", (2,))), lambda: room.cord_of("c")]
        for ask in wrong:
            with self.assertRaises((BadName, Here, BadCord, NoName, BadChange, BadPromise, Broken)):
                ask()
            self.assertEqual(room.text(), text)
        room.redo()
        self.assertEqual(room.cord_of("b"), ((2, -1),))
        with self.assertRaises(NothingToRedo):
            room.redo()

    def test_leaving_takes_promises_along(self):
        room = room_with((("a", ((1, 1),)), ("b", ((1, 1), (2, 1), (2, -1))), ("c", ((2, 1),))))
        promises = (("alike", "a", "b"), ("keeps", "a", (1, 3)), ("lasts", "b", "a"), ("falls", "c", (1,)), ("lasts", "a", "b"))
        for promise in promises:
            room.make(promise)
        self.assertEqual(room.promises(), promises)
        room.leave("b")
        self.assertEqual(room.promises(), promises[1:2] + promises[3:4])
        room.undo()
        self.assertEqual(room.promises(), promises)
        room.leave("a")
        self.assertEqual(room.promises(), promises[3:4])

    def test_copies(self):
        room = room_with((("a", ((1, 1),)), ("b", ((2, 1),))))
        room.undo()
        other = room.copied()
        self.assertIs(type(other), Room)
        self.assertIsNot(other, room)
        self.assertIs(other.is_same(room), True)
        other.redo()
        self.assertEqual([len(room.names()), len(other.names())], [1, 2])
        room.put("c", ())
        self.assertEqual([name for name, _ in other.names()], ["a", "b"])
        with self.assertRaises(NothingToRedo):
            room.redo()
        other.undo()
        other.undo()
        self.assertEqual([len(room.names()), len(other.names())], [2, 0])
        with self.assertRaises(NothingToUndo):
            other.undo()
        room.undo()
        room.undo()
        with self.assertRaises(NothingToUndo):
            room.undo()

    def test_is_same(self):
        room = room_with((("a", ((1, 1),)), ("b", ((2, 1),))))
        for thing in ODD + [room.text(), (room,), [room], room.names(), Room, Room(room.wall()), room_with((("a", ((1, 1),)),)),
                            room_with((("a", ((1, 1),)), ("b", ((2, 2),)))), room_with((("a", ((1, 1),)), ("b", ((2, 1),))), (0, 0, 0))]:
            self.assertIs(room.is_same(thing), thing is ROOM, thing)
        # Texts tell nothing about deeds, nor in which order names were put.
        later = room_with((("b", ((2, 1),)), ("a", ((1, 5),))))
        later.leave("a")
        later.put("a", ((1, 1),))
        self.assertEqual([room.is_same(later), later.is_same(room), room.is_same(room)], [True, True, True])
        later.make(("keeps", "a", (1,)))
        self.assertEqual([room.is_same(later), later.is_same(room)], [False, False])

    def test_rooms_compare_without_errors(self):
        for one, other in itertools.product([ROOM, ROOM.copied(), Room(FREE)] + ODD, repeat=2):
            self.assertIs(one == other, not one != other)


class Errors(unittest.TestCase):
    def setUp(self):
        self.room = room_with((("a", SWAP), ("b", ((2, 1),))), (0, 2, 3, 0))
        self.room.change(("rail", 1, 3))
        self.room.change(("rail", 2, 4))
        self.room.make(("keeps", "a", (1, 2)))
        self.told = shape(self.room)

    def tearDown(self):
        self.assertEqual(shape(self.room), self.told)

    def check(self, ask, error, *values):
        check_error(self, ask, error, values)

    def test_names(self):
        room = self.room
        for name in NO_NAMES:
            for cord in ((), None, ROOM):
                self.check(lambda: room.put(name, cord), BadName, name)
        for name in ("a", "b"):
            for cord in ((), None, ROOM):
                self.check(lambda: room.put(name, cord), Here, name)
        for cord in NO_CORDS:
            for name in ("c", "z", "abcdefgh", "aa"):
                self.check(lambda: room.put(name, cord), BadCord, cord)

    def test_no_names(self):
        room = self.room
        for name in NO_NAMES + ["c", "aa", "ab", "z", "pegs"]:
            for ask in (lambda: room.cord_of(name), lambda: room.back(name), lambda: room.leave(name)):
                self.check(ask, NoName, name)
            for word in ("behind", "swap"):
                deed = getattr(room, word)
                for other in ("a", "c", None, ROOM, []):
                    self.check(lambda: deed(name, other, other), NoName, name)
                    self.check(lambda: deed("a", name, other), NoName, name)
                self.check(lambda: deed("b", "a", name), NoName, name)

    def test_changes(self):
        for thing in NO_CHANGES + [("double", 1), ("double", 4), ("bring", 1, 4)]:
            self.check(lambda: self.room.change(thing), BadChange, thing)
        room = Room(((0, 0), ()))
        for thing in (("bring", 1, 2), ("double", 1), ("double", 2)):
            self.check(lambda: room.change(thing), BadChange, thing)

    def test_promises(self):
        for thing in NO_PROMISES + [("keeps", "a", (1, 2))]:
            self.check(lambda: self.room.make(thing), BadPromise, thing)
        for thing in NO_PROMISES + [("keeps", "a", (1, 2, 3)), ("lasts", "a", "b"), ("keeps", "a", (True, 2)), ("keeps", "b", (1, 2))]:
            self.check(lambda: self.room.drop(thing), BadPromise, thing)
        for thing in near(("keeps", "a", (1, 2))):
            self.check(lambda: self.room.drop(thing), BadPromise, thing)


class BrokenPromises(unittest.TestCase):
    def check(self, room, deed, promise, ahead):
        """A deed breaks a promise, but none of those ahead of it; the room stays."""
        text = room.text()
        with self.assertRaises(Broken) as caught:
            deed(room)
        self.assertEqual(caught.exception.promise, promise)
        self.assertEqual(room.text(), text)
        # What is new, in a room without promises.
        new = room.copied()
        for made in room.promises():
            new.drop(made)
        if promise in room.promises():
            deed(new)
        self.assertIs(against_holds(new, promise, caught.exception.certificate), True)
        for made in ahead:
            self.assertEqual(judge_promise(new, made), ("holds",))

    def test_the_first_one_in_their_order(self):
        promises = [("alike", "a", "c"), ("keeps", "a", (1, 2)), ("falls", "a", (1, 3)), ("lasts", "b", "a")]
        cords = (("a", SWAP), ("b", ((1, 1), (2, 1))), ("c", SWAP), ("d", ()), ("e", ((3, 1),)))
        for order in itertools.permutations(promises):
            for deed, broken in ((lambda room: room.behind("a", "d", "d"), (0, 1)), (lambda room: room.back("a"), (0,)),
                                 (lambda room: room.behind("a", "e", "e"), (0, 1, 2, 3)), (lambda room: room.swap("a", "a", "e"), (0, 1)),
                                 (lambda room: room.change(("rail", 1, 2)), (1,)), (lambda room: room.behind("b", "e", "e"), (3,)),
                                 (lambda room: room.swap("c", "a", "a"), (0,)), (lambda room: room.behind("a", "a", "e"), (0, 2, 3))):
                room = room_with(cords)
                for promise in order:
                    room.make(promise)
                first = [promise for promise in order if promises.index(promise) in broken][0]
                self.check(room, deed, first, order[:order.index(first)])

    def test_worn_pegs_and_what_is_made(self):
        room = room_with((("a", ((1, 4),)), ("b", ((1, 2),)), ("c", ((1, 1), (2, 1)))))
        room.make(("lasts", "a", "b"))
        self.check(room, lambda its: its.change(("wear", 1, 4)), ("lasts", "a", "b"), ())
        room.make(("keeps", "b", (1, 4)))
        room.drop(("lasts", "a", "b"))
        room.change(("wear", 1, 4))
        self.check(room, lambda its: its.change(("wear", 1, 2)), ("keeps", "b", (1, 4)), ())
        for promise in (("alike", "a", "b"), ("keeps", "a", (1, 2)), ("falls", "c", (2, 3)), ("lasts", "b", "c"), ("keeps", "c", ())):
            self.check(room, lambda its: its.make(promise), promise, ())
        for promise in (("alike", "a", "b"), ("lasts", "a", "b"), ("falls", "b", ())):
            self.assertEqual(judge_promise(room, promise) == ("holds",), promise[0] == "falls")

    def test_back_breaks_what_is_alike(self):
        room = room_with((("a", ((1, 1),)), ("b", ((1, 1),))))
        room.make(("alike", "a", "b"))
        for name in ("a", "b"):
            self.check(room, lambda its: its.back(name), ("alike", "a", "b"), ())
        room.change(("wear", 1, 2))
        room.back("a")
        self.assertEqual(room.names(), (("a", ((1, -1),)), ("b", ((1, 1),))))
