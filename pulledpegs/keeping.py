"""Which sets keep a cord, for what is known to be a wall and a cord of it.

Slides go on when pegs are pulled. So the form on a set is worked out from the form on the set with one peg more, which
mostly has far fewer pairs than the cord: nests are gone as soon as one of their pegs is.
"""

from pulledpegs.forms import form_by, form_on, ties_of
from pulledpegs.numbered import falling_by, least_by, number_of, set_of, table_by


def left_on(cord, kept):
    """The cord on a set, pair by pair."""
    return tuple([pair for pair in cord if pair[0] in kept])


def keeps_on(wall, cord, kept):
    """Whether the set keeps the cord."""
    return form_on(wall, left_on(cord, kept)) != ()


class Forms:
    """The forms of a cord on sets, by their numbers; each is worked out once it is asked for, and then known."""

    def __init__(self, wall, cord):
        self.slips = wall[0]
        self.ties = ties_of(wall)
        self.known = {(1 << len(wall[0])) - 1: form_by(wall[0], self.ties, cord)}

    def on(self, number):
        """The form of the cord on the set with the number."""
        if number not in self.known:
            # The set with the least peg more that is not in it.
            above = self.on(number | (number + 1))
            left = left_on(above, set_of(number))
            if len(left) < len(above):
                left = form_by(self.slips, self.ties, left)
            self.known[number] = left
        return self.known[number]


def table_on(wall, cord):
    """The table of the cord."""
    forms = Forms(wall, cord)
    return [forms.on(number) != () for number in range(1 << len(wall[0]))]


def rule_on(wall, cord):
    """The rule of the cord."""
    return least_by(table_on(wall, cord))


def has_rule(wall, cord, rule):
    """Whether the cord has the rule."""
    forms = Forms(wall, cord)
    for pegs in rule:
        if forms.on(number_of(pegs)) == ():
            return False
    # What keeps on each least set and falls on each greatest falling set has just this rule.
    for pegs in falling_by(table_by(len(wall[0]), rule)):
        if forms.on(number_of(pegs)) != ():
            return False
    return True


def set_lost(wall, one, other):
    """A set that keeps the cord other and not the cord one, None if there is none."""
    forms = Forms(wall, one)
    for pegs in rule_on(wall, other):
        if forms.on(number_of(pegs)) == ():
            return pegs
    return None
