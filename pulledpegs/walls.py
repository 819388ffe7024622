"""Walls, the sets of their pegs, what hangs together, and the texts of walls."""

from pulledpegs.errors import BadSet, BadText, BadWall
from pulledpegs.kinds import is_ascending, is_integer, is_peg, is_peg_set

MOST_PEGS = 10
LEAST_SLIP = 2
MOST_SLIP = 30


def is_right(thing):
    """Whether any value is a wall."""
    if not (isinstance(thing, tuple) and len(thing) == 2):
        return False
    return _are_slips(thing[0]) and _are_rails(len(thing[0]), thing[1])


def _are_slips(thing):
    if not (isinstance(thing, tuple) and 1 <= len(thing) <= MOST_PEGS):
        return False
    for slip in thing:
        if not (is_integer(slip) and (slip == 0 or LEAST_SLIP <= slip <= MOST_SLIP)):
            return False
    return True


def _are_rails(many, thing):
    if not isinstance(thing, tuple):
        return False
    for rail in thing:
        if not (isinstance(rail, tuple) and len(rail) == 2):
            return False
        if not (is_peg(many, rail[0]) and is_peg(many, rail[1]) and rail[0] < rail[1]):
            return False
    return is_ascending(thing)


def need_right(wall):
    """Raises BadWall for any value that is no wall."""
    if not is_right(wall):
        raise BadWall(wall)


def is_set(wall, thing):
    """Whether any value is a set of pegs of the wall."""
    need_right(wall)
    return is_peg_set(len(wall[0]), thing)


def need_set(wall, pegs):
    """Raises BadWall, then BadSet for any value as pegs that is no set of the wall."""
    if not is_set(wall, pegs):
        raise BadSet(pegs)


def are_tied(wall, i, j):
    """Whether two unlike pegs have no rail between them."""
    need_right(wall)
    return lacks_rail(wall, i, j)


def lacks_rail(wall, i, j):
    """As are_tied, for what is known to be a wall."""
    return i != j and (min(i, j), max(i, j)) not in wall[1]


def hangs_together(wall, pegs):
    """Whether the set is not () and one can come from each of its pegs to each other one along tied pegs of it."""
    return len(parts_of(wall, pegs)) == 1


def parts_of(wall, pegs):
    """The ascending tuple of the greatest sets within the set that hang together."""
    need_set(wall, pegs)
    parts = []
    left = list(pegs)
    while left:
        # The least peg that is left begins the next part, so the parts ascend.
        part = _part_about(wall, left[0], left)
        parts.append(part)
        left = [peg for peg in left if peg not in part]
    return tuple(parts)


def _part_about(wall, first, pegs):
    part = [first]
    at = 0
    while at < len(part):
        for peg in pegs:
            if peg not in part and lacks_rail(wall, part[at], peg):
                part.append(peg)
        at += 1
    return tuple(sorted(part))


def wall_text(wall):
    """The text of a wall."""
    need_right(wall)
    words = ["pegs"] + [str(slip) for slip in wall[0]]
    if wall[1]:
        words = words + ["rails"] + [f"{i}-{j}" for i, j in wall[1]]
    return " ".join(words)


def wall_of_text(text):
    """The wall with a text; raises BadText(0) for any value that is the text of no wall."""
    if not isinstance(text, str):
        raise BadText(0)
    wall = _guessed(text)
    # Reading is generous; that the text comes back sign by sign is what makes it the text of the wall.
    if not is_right(wall) or wall_text(wall) != text:
        raise BadText(0)
    return wall


def _guessed(text):
    words = text.split(" ")
    cut = len(words)
    if "rails" in words:
        cut = words.index("rails")
    slips = tuple([_number(word) for word in words[1:cut]])
    rails = tuple([tuple([_number(end) for end in word.split("-")]) for word in words[cut + 1:]])
    return (slips, rails)


def _number(word):
    """The number that a word tells, or -1, which stands in no wall."""
    # No number of a wall has more than two digits, and Python refuses to read very long ones.
    if len(word) <= 2 and word.isdecimal():
        return int(word)
    return -1
