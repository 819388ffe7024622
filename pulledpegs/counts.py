"""Signed counts of rows of pegs in cords of the plain wall of ten pegs.

A cord has a series: a sum of rows, each as often as its count tells. The series of (peg, e) is the e-th power of
1 + peg, and that of a cord is the product of those of its pairs, in their order.
"""

from pulledpegs.errors import BadCord, BadRow
from pulledpegs.forms import form_on
from pulledpegs.kinds import is_integer, is_peg, is_told, is_wound

PLAIN = ((0, 0, 0, 0, 0, 0, 0, 0, 0, 0), ())
MANY = 10


def count_of(cord, row):
    """The count of the row in the cord."""
    _need_plain(cord)
    if not _is_row(row):
        raise BadRow(row)
    return _count_in(cord, row)


def counted_rows(cord, length):
    """The ascending tuple of the pairs (row, count) for all rows of at most so many pegs whose count is not 0."""
    _need_plain(cord)
    return tuple(sorted(_series_of(cord, length).items()))


def depth_of(cord):
    """The least length of a row, other than (), whose count is not 0; None for a cord alike to ()."""
    _need_plain(cord)
    form = form_on(PLAIN, cord)
    if form == ():
        return None
    # All rows up to a length become many with the length, so the lengths are tried from 1 on.
    length = 1
    while len(_series_of(form, length)) == 1:
        length += 1
    return length


def judge_row(cord):
    """A certificate ("row", row, count) for a cord, None for one alike to ()."""
    _need_plain(cord)
    form = form_on(PLAIN, cord)
    if form == ():
        return None
    # Each peg differs from the next one, so there is one way alone to cut the row: a single peg for each pair.
    count = 1
    for _, winds in form:
        count = count * winds
    return ("row", tuple([peg for peg, _ in form]), count)


def row_holds(cord, thing):
    """Whether any value is a certificate for a cord."""
    _need_plain(cord)
    if not (is_told(thing, "row", 3) and _is_row(thing[1]) and is_integer(thing[2])):
        return False
    return thing[1] != () and thing[2] != 0 and _count_in(cord, thing[1]) == thing[2]


def _need_plain(cord):
    if not is_wound(MANY, cord):
        raise BadCord(cord)


def _is_row(thing):
    return isinstance(thing, tuple) and not [peg for peg in thing if not is_peg(MANY, peg)]


def _count_in(cord, row):
    # At each place stands the count of the part of the row ahead of it, in the part of the cord so far.
    counts = [1] + [0 for _ in row]
    for peg, winds in cord:
        if abs(winds) > len(row):
            counts = _wound(counts, row, peg, winds)
        else:
            for _ in range(winds):
                counts = _wound_once(counts, row, peg)
            for _ in range(-winds):
                counts = _unwound_once(counts, row, peg)
    return counts[len(row)]


def _wound(counts, row, peg, winds):
    """The counts behind a pair, by all pieces that it may have."""
    behind = []
    for end in range(len(counts)):
        many, choices, total = 0, 1, counts[end]
        while many < end and row[end - many - 1] == peg:
            choices = choices * (winds - many) // (many + 1)
            many += 1
            total += choices * counts[end - many]
        behind.append(total)
    return behind


def _wound_once(counts, row, peg):
    behind = [1]
    for at, its in enumerate(row):
        behind.append(counts[at + 1] + (counts[at] if its == peg else 0))
    return behind


def _unwound_once(counts, row, peg):
    """The counts that _wound_once makes these counts of."""
    behind = [1]
    for at, its in enumerate(row):
        behind.append(counts[at + 1] - (behind[at] if its == peg else 0))
    return behind


def _series_of(cord, length):
    """The counts other than 0, by rows of at most so many pegs."""
    series = {(): 1}
    for peg, winds in cord:
        series = _series_behind(series, peg, winds, length)
    return series


def _series_behind(series, peg, winds, length):
    behind = {}
    for row, count in series.items():
        for many in range(length - len(row) + 1):
            behind[row] = behind.get(row, 0) + count
            row = row + (peg,)
            # From the choices of so many winds to those of one more; what is divided has no remainder.
            count = count * (winds - many) // (many + 1)
    return {row: count for row, count in behind.items() if count != 0}
