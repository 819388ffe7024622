"""Which sets keep a cord, for what is known to be a wall and a cord of it.

Slides go on when pegs are pulled. So the form on a set is worked out from the form on the set with one peg more, which
mostly has far fewer pairs than the cord: nests are gone as soon as one of their pegs is.
"""

from pulledpegs.forms import form_by, form_on, ties_of
from pulledpegs.numbered import falling_by, least_by, number_of, set_of, table_by


def left_on(cord, kept):
    """The cord on a set, pair by pair."""
    return tuple([pair for pair in cord if pair[0] in kept])


def keeps_on(wall, cord, kept):
    """Whether the set keeps the cord."""
    return form_on(wall, left_on(cord, kept)) != ()


def table_on(wall, cord):
    """The table of the cord."""
    ties = ties_of(wall)
    forms = _forms_begun(wall, ties, cord)
    return [_form_at(wall, ties, forms, number) != () for number in range(1 << len(wall[0]))]


def rule_on(wall, cord):
    """The rule of the cord."""
    return least_by(table_on(wall, cord))


def has_rule(wall, cord, rule):
    """Whether the cord has the rule."""
    ties = ties_of(wall)
    forms = _forms_begun(wall, ties, cord)
    for pegs in rule:
        if _form_at(wall, ties, forms, number_of(pegs)) == ():
            return False
    # What keeps on each least set and falls on each greatest falling set has just this rule.
    for pegs in falling_by(table_by(len(wall[0]), rule)):
        if _form_at(wall, ties, forms, number_of(pegs)) != ():
            return False
    return True


def _forms_begun(wall, ties, cord):
    """The forms by the numbers of sets, as far as they are known: that on all pegs."""
    return {(1 << len(wall[0])) - 1: form_by(wall[0], ties, cord)}


def _form_at(wall, ties, forms, number):
    """The form of the cord on the set with the number; it is put among the forms."""
    if number not in forms:
        # The set with the least peg more that is not in it.
        above = _form_at(wall, ties, forms, number | (number + 1))
        left = left_on(above, set_of(number))
        if len(left) < len(above):
            left = form_by(wall[0], ties, left)
        forms[number] = left
    return forms[number]
