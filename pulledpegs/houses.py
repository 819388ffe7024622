"""Rooms: a wall and named cords of it under deeds, with promises that hold at all times."""

from pulledpegs.changes import cord_behind, need_change, wall_behind
from pulledpegs.cords import need_cords
from pulledpegs.errors import BadName, BadPromise, Broken, Here, NoName, NothingToRedo, NothingToUndo
from pulledpegs.forms import turned_back
from pulledpegs.lines import room_text
from pulledpegs.named import is_name, is_named, is_promise, told_against
from pulledpegs.walls import need_right


class Room:
    """A room."""

    def __init__(self, wall):
        need_right(wall)
        # A state is the wall, the pairs of names and cords, and the promises. None is ever changed, so that deeds are
        # taken back by states alone, and copies can share them.
        self._state = (wall, (), ())
        self._taken_back_to = []
        self._done_again_to = []

    def wall(self):
        """The wall."""
        return self._state[0]

    def names(self):
        """The ascending tuple of the pairs of names and cords."""
        return self._state[1]

    def promises(self):
        """The tuple of the promises, in the order in which they were made."""
        return self._state[2]

    def cord_of(self, name):
        """The cord with the name."""
        return self._cords_with((name,))[name]

    def put(self, name, cord):
        """Gives a new name to a cord."""
        if not is_name(name):
            raise BadName(name)
        cords = dict(self.names())
        if name in cords:
            raise Here(name)
        need_cords(self.wall(), (cord,))
        cords[name] = cord
        self._do(self.wall(), cords, self.promises())

    def behind(self, name, one, other):
        """Gives the name the cord of one and, behind it, that of other."""
        cords = self._cords_with((name, one, other))
        cords[name] = cords[one] + cords[other]
        self._do_if_held(self.wall(), cords, self.promises())

    def swap(self, name, one, other):
        """Gives the name the swap of the cords of one and other."""
        cords = self._cords_with((name, one, other))
        first, second = cords[one], cords[other]
        cords[name] = first + second + turned_back(first) + turned_back(second)
        self._do_if_held(self.wall(), cords, self.promises())

    def back(self, name):
        """Gives the name its cord back."""
        cords = self._cords_with((name,))
        cords[name] = turned_back(cords[name])
        self._do_if_held(self.wall(), cords, self.promises())

    def change(self, change):
        """Changes the wall and all cords."""
        wall = self.wall()
        need_change(wall, change, ("rail", "wear", "carry"))
        cords = {name: cord_behind(wall, change, cord) for name, cord in self.names()}
        self._do_if_held(wall_behind(wall, change), cords, self.promises())

    def leave(self, name):
        """Removes the name, and all promises with it."""
        cords = self._cords_with((name,))
        del cords[name]
        # A promise with the name is none without it.
        left = [promise for promise in self.promises() if is_promise(self.wall(), cords, promise)]
        self._do(self.wall(), cords, tuple(left))

    def make(self, thing):
        """Adds the promise behind all others."""
        cords = dict(self.names())
        if not is_promise(self.wall(), cords, thing) or thing in self.promises():
            raise BadPromise(thing)
        self._do_if_held(self.wall(), cords, self.promises() + (thing,))

    def drop(self, thing):
        """Removes the promise."""
        cords = dict(self.names())
        # Python takes True for 1, so a value is first asked whether it is a promise at all.
        if not (is_promise(self.wall(), cords, thing) and thing in self.promises()):
            raise BadPromise(thing)
        self._do(self.wall(), cords, tuple([promise for promise in self.promises() if promise != thing]))

    def undo(self):
        """Takes back the last deed that has not been taken back."""
        if self._taken_back_to == []:
            raise NothingToUndo()
        self._done_again_to.append(self._state)
        self._state = self._taken_back_to.pop()

    def redo(self):
        """Does again the deed that was taken back last."""
        if self._done_again_to == []:
            raise NothingToRedo()
        self._taken_back_to.append(self._state)
        self._state = self._done_again_to.pop()

    def copied(self):
        """Another room with the same wall, names, promises, and deeds to undo and to redo."""
        room = Room(self.wall())
        room._state = self._state
        room._taken_back_to = list(self._taken_back_to)
        room._done_again_to = list(self._done_again_to)
        return room

    def text(self):
        """The text of the room."""
        return room_text(self.wall(), self.names(), self.promises())

    def is_same(self, thing):
        """Whether any value is a room with the same text."""
        return isinstance(thing, Room) and thing.text() == self.text()

    def _cords_with(self, names):
        """The cords by their names; raises NoName with the first one of some values that is none of the names."""
        cords = dict(self.names())
        for name in names:
            if not is_named(cords, name):
                raise NoName(name)
        return cords

    def _do_if_held(self, wall, cords, promises):
        """Does a deed; raises Broken with the first promise that would not hold."""
        for promise in promises:
            told = told_against(wall, cords, promise)
            if told is not None:
                raise Broken(promise, told)
        self._do(wall, cords, promises)

    def _do(self, wall, cords, promises):
        """Does a deed that leads to this wall, these cords by their names, and these promises."""
        self._taken_back_to.append(self._state)
        self._done_again_to = []
        self._state = (wall, tuple(sorted(cords.items())), promises)


def room_begun(wall, cords, promises):
    """A room with a wall, cords by their names, and promises that hold, and without deeds to undo or redo."""
    room = Room(wall)
    room._state = (wall, tuple(sorted(cords.items())), promises)
    return room
