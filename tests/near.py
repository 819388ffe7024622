"""Values next to a right one: a part too few, too many, exchanged, or of another kind."""

from pulledpegs.houses import Room


def near(thing):
    """Values each of which differs from the thing in one place."""
    for other in _near_all(thing):
        if not is_exactly(other, thing):
            yield other


def _near_all(thing):
    yield None
    if isinstance(thing, tuple):
        yield from _near_tuple(thing)
    elif isinstance(thing, bool):
        yield from (not thing, int(thing), str(thing), (thing,))
    elif isinstance(thing, int):
        yield from (thing + 1, thing - 1, -thing if thing else 2, True, False, str(thing), (thing,), [thing], {thing: 1})
    elif isinstance(thing, str):
        yield from (thing + "s", thing[:-1], thing.upper(), "", [thing], (thing,), 0, True)


def _near_tuple(thing):
    yield from (list(thing), (thing,), thing + (None,), thing + ((),), thing + thing, dict.fromkeys(range(len(thing))))
    for at, part in enumerate(thing):
        yield thing[:at] + thing[at + 1:]
        yield thing[:at] + (part,) + thing[at:]
        if at > 0:
            yield thing[:at - 1] + (part, thing[at - 1]) + thing[at + 1:]
        for other in near(part):
            yield thing[:at] + (other,) + thing[at + 1:]


def is_exactly(one, other):
    """Whether two values are the same in kind, too."""
    if type(one) is not type(other):
        return False
    if isinstance(one, (tuple, list)):
        return len(one) == len(other) and all(is_exactly(part, its) for part, its in zip(one, other))
    return one == other


def shape(value):
    """What tells whether two values are the same: rooms by their texts, and all parts with their kinds."""
    if isinstance(value, Room):
        return ("room", value.text())
    if isinstance(value, (tuple, list)):
        return (type(value).__name__, [shape(part) for part in value])
    if isinstance(value, dict):
        return ("dict", [(shape(key), shape(part)) for key, part in value.items()])
    return (type(value).__name__, value)
