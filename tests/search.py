"""Searches that know of slides and leads only what the document says of them, to compare the program with."""

import itertools


def tied(wall, i, j):
    return i != j and (i, j) not in wall[1] and (j, i) not in wall[1]


def all_slides(wall, cord):
    """All pairs (slide, cord behind it) for the slides that can be done."""
    found = []
    for at, (peg, winds) in enumerate(cord):
        slip = wall[0][peg - 1]
        if slip:
            left = winds % slip
            found.append((("turn", at), cord[:at] + (((peg, left),) if left else ()) + cord[at + 1:]))
        if at + 1 < len(cord):
            next_peg, next_winds = cord[at + 1]
            if peg == next_peg:
                total = winds + next_winds
                found.append((("join", at), cord[:at] + (((peg, total),) if total else ()) + cord[at + 2:]))
            elif not tied(wall, peg, next_peg):
                found.append((("past", at), cord[:at] + ((next_peg, next_winds), (peg, winds)) + cord[at + 2:]))
    return found


def reached(wall, cord):
    """All cords to which rows of slides lead."""
    seen = {cord}
    to_do = [cord]
    while to_do:
        for _, other in all_slides(wall, to_do.pop()):
            if other not in seen:
                seen.add(other)
                to_do.append(other)
    return seen


def is_turned(wall, cord):
    """Whether all winds at pegs with a slip number p are from 1 to p - 1."""
    return all(wall[0][peg - 1] == 0 or 1 <= winds < wall[0][peg - 1] for peg, winds in cord)


def searched_form(wall, cord):
    fit = [other for other in reached(wall, cord) if is_turned(wall, other)]
    fewest = min(len(other) for other in fit)
    return min(other for other in fit if len(other) == fewest)


def searched_length(wall, cord):
    total = 0
    for peg, winds in searched_form(wall, cord):
        slip = wall[0][peg - 1]
        total += min(winds, slip - winds) if slip else abs(winds)
    return total


def cords_of(pegs, winds, most):
    """All cords of at most so many pairs with these pegs and winds."""
    pairs = [(peg, wind) for peg in pegs for wind in winds]
    for many in range(most + 1):
        yield from itertools.product(pairs, repeat=many)


def turned_about(cord):
    return tuple((peg, -winds) for peg, winds in reversed(cord))


def led_forms(wall, cord, form_of, more, most_winds):
    """The forms of cords to which single pairs, one after the other, lead a cord round.

    All that is led through has at most `more` pairs more than the form of the cord, and winds up to most_winds.
    """
    leads = [((peg, wind),) for peg in range(1, len(wall[0]) + 1) for wind in (-1, 1)]
    first = form_of(wall, cord)
    seen = {first}
    to_do = [first]
    while to_do:
        form = to_do.pop()
        for lead in leads:
            other = form_of(wall, lead + form + turned_about(lead))
            small = len(other) <= len(first) + more and all(abs(winds) <= most_winds for _, winds in other)
            if small and other not in seen:
                seen.add(other)
                to_do.append(other)
    return seen


def searched_round_form(led):
    fewest = min(len(form) for form in led)
    return min(form for form in led if len(form) == fewest)
