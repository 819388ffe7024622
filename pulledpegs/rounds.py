"""Cords that lead one another round, and round forms.

From one form of a short cord one comes to each other one by moves: a pair that can slide to the front goes behind
all others. From a cord that is not short some moves lead to fewer pairs, the moved pair joining another one.
"""

from pulledpegs.cords import need_cords
from pulledpegs.forms import form_by, form_on, ties_of, turned_back
from pulledpegs.kinds import is_same, is_told, is_wound


def round_form(wall, cord):
    """The round form of the cord."""
    need_cords(wall, (cord,))
    return _least_round(wall, cord)[0]


def is_round(wall, one, other):
    """Whether some cord leads the cord one round to the cord other."""
    need_cords(wall, (one, other))
    return _least_round(wall, one)[0] == _least_round(wall, other)[0]


def judge_round(wall, one, other):
    """A certificate ("cord", a) or ("forms", one, other) for two cords."""
    need_cords(wall, (one, other))
    first, lead = _least_round(wall, one)
    second, other_lead = _least_round(wall, other)
    if first == second:
        return ("cord", form_on(wall, turned_back(other_lead) + lead))
    return ("forms", first, second)


def round_holds(wall, one, other, thing):
    """Whether any value is a certificate for two cords."""
    need_cords(wall, (one, other))
    if is_told(thing, "cord", 2):
        return is_wound(len(wall[0]), thing[1]) and _leads(wall, thing[1], one, other)
    first, second = _least_round(wall, one)[0], _least_round(wall, other)[0]
    return first != second and is_same(thing, ("forms", first, second))


def _leads(wall, lead, one, other):
    return form_on(wall, lead + one + turned_back(lead)) == form_on(wall, other)


def _least_round(wall, cord):
    """The round form of the cord, and a cord that leads the cord round to it."""
    ties = ties_of(wall)
    form, lead = _shortened(wall, ties, cord)
    leads = _leads_from(wall, ties, form)
    least = min(list(leads))
    return least, leads[least] + lead


def _shortened(wall, ties, cord):
    """The form of a short cord to which the cord is led round, and a cord that leads it there."""
    form, lead = form_by(wall[0], ties, cord), ()
    move = _move_to_fewer(wall, ties, form)
    while move is not None:
        step, form = move
        lead = step + lead
        move = _move_to_fewer(wall, ties, form)
    return form, lead


def _move_to_fewer(wall, ties, form):
    """A move that leads to fewer pairs, or None if the form is that of a short cord."""
    for step, moved in _moves(wall, ties, form):
        if len(moved) < len(form):
            return step, moved
    return None


def _leads_from(wall, ties, form):
    """For each form of a short cord to which this one of a short cord is led round, a cord that leads it there."""
    leads = {form: ()}
    forms = [form]
    at = 0
    while at < len(forms):
        for step, moved in _moves(wall, ties, forms[at]):
            if moved not in leads:
                leads[moved] = step + leads[forms[at]]
                forms.append(moved)
        at += 1
    return leads


def _moves(wall, ties, form):
    """For each pair that can slide to the front, the cord that leads it behind all others, and the form then."""
    moves = []
    for at, (peg, winds) in enumerate(form):
        if not [ahead for ahead, _ in form[:at] if ahead in ties[peg]]:
            moved = form[:at] + form[at + 1:] + ((peg, winds),)
            moves.append((((peg, -winds),), form_by(wall[0], ties, moved)))
    return moves
