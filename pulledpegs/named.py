"""Names of cords, and promises about them, for what is known to be a wall and a dict of cords of it by their names."""

from pulledpegs.cords import alike_holds, judge_alike
from pulledpegs.kinds import is_peg_set, is_same, is_told
from pulledpegs.pairs import judge_lasts, lasts_holds
from pulledpegs.pulled import judge_keep, keep_holds

MOST_LETTERS = 8

# With which word a certificate begins that is against a promise with the word.
AGAINST = {"alike": "forms", "keeps": "slides", "falls": "rest", "lasts": "set"}


def is_name(thing):
    """Whether any value can be a name."""
    if not (isinstance(thing, str) and 1 <= len(thing) <= MOST_LETTERS):
        return False
    return not [sign for sign in thing if not "a" <= sign <= "z"]


def is_named(cords, thing):
    """Whether any value is the name of one of the cords."""
    return isinstance(thing, str) and thing in cords


def is_promise(wall, cords, thing):
    """Whether any value is a promise with names of the cords, be it that it holds or not."""
    if is_told(thing, "keeps", 3) or is_told(thing, "falls", 3):
        return is_named(cords, thing[1]) and is_peg_set(len(wall[0]), thing[2])
    if is_told(thing, "alike", 3):
        return is_named(cords, thing[1]) and is_named(cords, thing[2]) and thing[1] < thing[2]
    if is_told(thing, "lasts", 3):
        return is_named(cords, thing[1]) and is_named(cords, thing[2]) and thing[1] != thing[2]
    return False


def told_against(wall, cords, promise):
    """A certificate against the promise, None if it holds."""
    word, name, last = promise
    if word == "alike":
        told = judge_alike(wall, cords[name], cords[last])
    elif word == "lasts":
        told = judge_lasts(wall, cords[name], cords[last])
    else:
        told = judge_keep(wall, cords[name], last)
    if told[0] == AGAINST[word]:
        return told
    return None


def is_against(wall, cords, promise, thing):
    """Whether any value is a certificate against the promise."""
    word, name, last = promise
    # A certificate that the promise holds is right as well, but it begins with another word.
    if not (isinstance(thing, tuple) and len(thing) > 0 and is_same(thing[0], AGAINST[word])):
        return False
    if word == "alike":
        return alike_holds(wall, cords[name], cords[last], thing)
    if word == "lasts":
        return lasts_holds(wall, cords[name], cords[last], thing)
    return keep_holds(wall, cords[name], last, thing)
