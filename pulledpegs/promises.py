"""Promises about the cords of a room, made or not, and certificates against them."""

from pulledpegs.errors import BadPromise
from pulledpegs.named import is_against, is_promise, told_against


def judge_promise(room, promise):
    """("holds",), or a certificate against the promise."""
    cords = _cords_for(room, promise)
    told = told_against(room.wall(), cords, promise)
    if told is None:
        return ("holds",)
    return told


def against_holds(room, promise, thing):
    """Whether any value is a certificate against the promise."""
    cords = _cords_for(room, promise)
    return is_against(room.wall(), cords, promise, thing)


def _cords_for(room, promise):
    """The cords by their names; raises BadPromise for any value that is no promise with names of the room."""
    cords = dict(room.names())
    if not is_promise(room.wall(), cords, promise):
        raise BadPromise(promise)
    return cords
