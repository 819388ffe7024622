"""A model of rooms that keeps all former states, by the document's words."""

import copy
import re

from pulledpegs.cords import are_alike, is_cord
from pulledpegs.errors import (BadChange, BadCord, BadName, BadPromise, Broken, Here, NoName, NothingToRedo, NothingToUndo)
from pulledpegs.houses import Room
from pulledpegs.promises import against_holds
from pulledpegs.pulled import does_keep
from tests.lead import led_cord, led_wall, right_changes
from tests.near import is_exactly
from tests.sets import all_sets


def turned(cord):
    return tuple((peg, -winds) for peg, winds in reversed(cord))


def right_promises(wall, cords):
    """All promises with names of some cords."""
    found = [(word, name, pegs) for word in ("keeps", "falls") for name in cords for pegs in all_sets(len(wall[0]))]
    found += [("alike", one, other) for one in cords for other in cords if one < other]
    return found + [("lasts", one, other) for one in cords for other in cords if one != other]


def holds(wall, cords, promise):
    word, name, last = promise
    if word == "alike":
        return are_alike(wall, cords[name], cords[last])
    if word == "lasts":
        return all(does_keep(wall, cords[name], pegs) for pegs in all_sets(len(wall[0])) if does_keep(wall, cords[last], pegs))
    return does_keep(wall, cords[name], last) == (word == "keeps")


def text_of(wall, cords, promises):
    text = "pegs " + " ".join(map(str, wall[0]))
    if wall[1]:
        text += " rails " + " ".join(f"{i}-{j}" for i, j in wall[1])
    for name in sorted(cords):
        text += f"\ncord {name}" + "".join(f" {peg}:{winds}" for peg, winds in cords[name])
    for word, name, last in promises:
        text += f"\npromise {word} {name}" + ("".join(f" {peg}" for peg in last) if word in ("keeps", "falls") else f" {last}")
    return text


def room_in(wall, cords):
    """A room in a state, without promises."""
    room = Room(wall)
    for name in cords:
        room.put(name, cords[name])
    return room


class Wrong(Exception):
    """An error that is due: its class, its attributes, and the room with all that would be new if a promise would break."""

    def __init__(self, error, values, room=None):
        self.due = (error, values, room)


class Model:
    def __init__(self, wall):
        self.state = (wall, {}, [])
        self.past = []
        self.ahead = []

    def do(self, word, *values):
        if word == "undo":
            return self.turn(self.past, self.ahead, NothingToUndo)
        if word == "redo":
            return self.turn(self.ahead, self.past, NothingToRedo)
        new = getattr(self, word)(copy.deepcopy(self.state), *values)
        self.past.append(self.state)
        self.ahead = []
        self.state = new

    def turn(self, taken, given, error):
        if not taken:
            raise Wrong(error, ())
        given.append(self.state)
        self.state = taken.pop()

    def need_names(self, cords, names):
        for name in names:
            if not (isinstance(name, str) and name in cords):
                raise Wrong(NoName, (name,))

    def held(self, state):
        wall, cords, promises = state
        for promise in promises:
            if not holds(wall, cords, promise):
                raise Wrong(Broken, (promise,), room_in(wall, cords))
        return state

    def put(self, state, name, cord):
        if not (isinstance(name, str) and re.fullmatch("[a-z]{1,8}", name)):
            raise Wrong(BadName, (name,))
        if name in state[1]:
            raise Wrong(Here, (name,))
        if not is_cord(state[0], cord):
            raise Wrong(BadCord, (cord,))
        state[1][name] = cord
        return state

    def behind(self, state, name, one, other):
        self.need_names(state[1], (name, one, other))
        state[1][name] = state[1][one] + state[1][other]
        return self.held(state)

    def swap(self, state, name, one, other):
        self.need_names(state[1], (name, one, other))
        first, second = state[1][one], state[1][other]
        state[1][name] = first + second + turned(first) + turned(second)
        return self.held(state)

    def back(self, state, name):
        self.need_names(state[1], (name,))
        state[1][name] = turned(state[1][name])
        return self.held(state)

    def change(self, state, change):
        wall, cords, promises = state
        if not any(is_exactly(change, right) for right in right_changes(wall) if right[0] in ("rail", "wear", "carry")):
            raise Wrong(BadChange, (change,))
        return self.held((led_wall(wall, change), {name: led_cord(wall, change, cords[name]) for name in cords}, promises))

    def leave(self, state, name):
        self.need_names(state[1], (name,))
        del state[1][name]
        return (state[0], state[1], [promise for promise in state[2] if name not in (promise[1], promise[2])])

    def make(self, state, thing):
        wall, cords, promises = state
        if not any(is_exactly(thing, right) for right in right_promises(wall, cords)) or thing in promises:
            raise Wrong(BadPromise, (thing,))
        return self.held((wall, cords, promises + [thing]))

    def drop(self, state, thing):
        wall, cords, promises = state
        if not any(is_exactly(thing, promise) for promise in promises):
            raise Wrong(BadPromise, (thing,))
        return (wall, cords, [promise for promise in promises if promise != thing])

    def copied(self):
        other = Model(self.state[0])
        other.state, other.past, other.ahead = copy.deepcopy((self.state, self.past, self.ahead))
        return other


def check_same(test, room, model):
    wall, cords, promises = model.state
    test.assertTrue(is_exactly(room.wall(), wall))
    test.assertTrue(is_exactly(room.names(), tuple(sorted(cords.items()))))
    for name in cords:
        test.assertTrue(is_exactly(room.cord_of(name), cords[name]))
    test.assertTrue(is_exactly(room.promises(), tuple(promises)))
    test.assertEqual(room.text(), text_of(wall, cords, promises))


def check_deed(test, room, model, word, *values):
    """Does a deed in a room and in its model; what comes of it, or the error, is the same. Tells the name of the error."""
    due = None
    try:
        model.do(word, *values)
    except Wrong as wrong:
        due = wrong.due
    if due is None:
        test.assertIsNone(getattr(room, word)(*values))
    else:
        check_error(test, lambda: getattr(room, word)(*values), *due)
    check_same(test, room, model)
    return None if due is None else due[0].__name__


def check_error(test, ask, error, values, room=None):
    with test.assertRaises(error) as caught:
        ask()
    test.assertIs(type(caught.exception), error)
    told = tuple(vars(caught.exception).values())
    if error is Broken:
        test.assertTrue(is_exactly(told[0], values[0]))
        test.assertIs(against_holds(room, *told), True)
    else:
        test.assertEqual(len(told), len(values))
        for one, other in zip(told, values):
            test.assertIs(one, other)
