"""Sets of pegs and rules, searched through without the program."""

import itertools


def subsets(pegs):
    """All sets of some pegs."""
    for many in range(len(pegs) + 1):
        yield from itertools.combinations(sorted(pegs), many)


def all_sets(many):
    return list(subsets(range(1, many + 1)))


def within(one, other):
    return set(one) <= set(other)


def least_of(kept):
    """The ascending tuple of those of some sets within which no other one lies."""
    return tuple(sorted(pegs for pegs in kept if not any(within(other, pegs) and other != pegs for other in kept)))


def greatest_of(falling):
    return tuple(sorted(pegs for pegs in falling if not any(within(pegs, other) and other != pegs for other in falling)))


def kept_by(many, rule):
    """The sets that a rule keeps."""
    return [pegs for pegs in all_sets(many) if any(within(least, pegs) for least in rule)]


def rules_of(many):
    """All rules of so many pegs."""
    sets = all_sets(many)[1:]
    found = [()]
    for pegs in sets:
        found += [rule + (pegs,) for rule in found if not any(within(least, pegs) or within(pegs, least) for least in rule)]
    return [tuple(sorted(rule)) for rule in found]


def joined(wall, pegs):
    """Whether a set hangs together, by going from its first peg along tied pegs."""
    if not pegs:
        return False
    seen = {pegs[0]}
    while True:
        more = {peg for peg in pegs for other in seen
                if peg not in seen and (min(peg, other), max(peg, other)) not in wall[1]}
        if not more:
            return seen == set(pegs)
        seen |= more


def has_cord_by_sets(wall, rule):
    return all(joined(wall, pegs) for pegs in rule)


def others(many, pegs):
    return tuple(peg for peg in range(1, many + 1) if peg not in pegs)


def table_by_sets(many, rule):
    kept = kept_by(many, rule)
    return tuple(tuple(peg for peg in range(1, many + 1) if number >> (peg - 1) & 1) in kept for number in range(2 ** many))


def random_rule(chance, many, most, size, fits=lambda pegs: True):
    """A rule of at most so many least sets, each of at most so many pegs."""
    rule = []
    for _ in range(most * 4):
        pegs = tuple(sorted(chance.sample(range(1, many + 1), chance.randint(1, min(size, many)))))
        if len(rule) < most and fits(pegs) and not any(within(pegs, other) or within(other, pegs) for other in rule):
            rule.append(pegs)
    return tuple(sorted(rule))


def random_wall(chance, many, slips=(0, 0, 2, 3, 30), part=0.3):
    rails = tuple(pair for pair in itertools.combinations(range(1, many + 1), 2) if chance.random() < part)
    return (tuple(chance.choice(slips) for _ in range(many)), rails)


def walls_of(many, slips):
    """All walls of so many pegs with some slip numbers."""
    pairs = list(itertools.combinations(range(1, many + 1), 2))
    for row in itertools.product(slips, repeat=many):
        for part in range(len(pairs) + 1):
            for rails in itertools.combinations(pairs, part):
                yield (row, rails)
