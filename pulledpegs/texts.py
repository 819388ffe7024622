"""Rooms read from their texts."""

from pulledpegs.errors import BadText
from pulledpegs.houses import room_begun
from pulledpegs.kinds import is_wound
from pulledpegs.lines import cord_line, promise_line
from pulledpegs.named import is_name, is_promise, told_against
from pulledpegs.walls import wall_of_text

# Python neither reads nor writes integers with many more digits than these.
MOST_DIGITS = 4000


def read_room(text):
    """The room with a text; raises BadText(line) for any value that is the text of no room."""
    if not isinstance(text, str):
        raise BadText(0)
    lines = text.split("\n")
    wall = _first_line_read(lines[0])
    cords, promises = {}, []
    for at in range(1, len(lines)):
        named = _cord_line_read(wall, cords, lines[at])
        promise = _promise_line_read(wall, cords, promises, lines[at])
        if named is not None and promises == []:
            cords[named[0]] = named[1]
        elif promise is not None:
            promises.append(promise)
        else:
            raise BadText(at + 1)
    return room_begun(wall, cords, tuple(promises))


def _first_line_read(line):
    try:
        return wall_of_text(line)
    except BadText:
        raise BadText(1) from None


def _cord_line_read(wall, cords, line):
    """The name and the cord that a line tells, None if it is wrong behind the lines of some cords."""
    words = line.split(" ")
    if words[0] != "cord" or len(words) == 1:
        return None
    name = words[1]
    cord = tuple([tuple([_number(end) for end in word.split(":")]) for word in words[2:]])
    # Reading is generous; that the line comes back sign by sign is what makes it the line of the cord.
    if not (is_name(name) and is_wound(len(wall[0]), cord) and cord_line(name, cord) == line):
        return None
    if [ahead for ahead in cords if ahead >= name]:
        return None
    return (name, cord)


def _promise_line_read(wall, cords, promises, line):
    """The promise that a line tells, None if it is wrong behind the lines of all cords and of some promises."""
    words = line.split(" ")
    if words[0] != "promise" or len(words) < 3:
        return None
    last = " ".join(words[3:])
    if words[1] in ("keeps", "falls"):
        last = tuple([_number(word) for word in words[3:]])
    promise = (words[1], words[2], last)
    if not is_promise(wall, cords, promise) or promise_line(promise) != line or promise in promises:
        return None
    if told_against(wall, cords, promise) is not None:
        return None
    return promise


def _number(word):
    """The integer that a word tells, or 0, which is neither a peg nor winds."""
    digits = word.removeprefix("-")
    if digits.isdecimal() and len(digits) <= MOST_DIGITS:
        return int(word)
    return 0
