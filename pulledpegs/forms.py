"""Forms of cords, for what is known to be a wall and cords of it.

A cord is heaped up pair by pair. Each peg has a pile; a pair lays its winds on the pile of its peg, and a 0 on the
pile of each peg that is tied to it. So winds lie on top of a pile exactly if no tied peg came behind them: then the
next pair of the peg can slide past all that is between, and join. And winds lie at the bottom of a pile exactly if
no tied peg is ahead of them: then the pair can slide past all others to the front.
"""

from pulledpegs.walls import lacks_rail


def form_on(wall, cord):
    """The form of the cord."""
    return form_by(wall[0], ties_of(wall), cord)


def form_by(slips, ties, cord):
    """The form of the cord, for who asks often and keeps what ties_of tells."""
    return _taken_down(_heaped(slips, ties, cord), ties)


def ties_of(wall):
    """For each peg the tuple of the pegs that are tied to it, at the index of the peg; at 0 stands ()."""
    pegs = list(range(1, len(wall[0]) + 1))
    ties = [()]
    for peg in pegs:
        ties.append(tuple([other for other in pegs if lacks_rail(wall, peg, other)]))
    return ties


def _heaped(slips, ties, cord):
    """The piles of the cord, at the indexes of the pegs."""
    piles = [[] for _ in ties]
    for peg, winds in cord:
        pile = piles[peg]
        joins = len(pile) > 0 and pile[-1] != 0
        if joins:
            winds = winds + pile[-1]
        if slips[peg - 1] > 0:
            winds = winds % slips[peg - 1]
        if joins and winds != 0:
            pile[-1] = winds
        elif joins:
            _lift(piles, peg, ties[peg])
        elif winds != 0:
            pile.append(winds)
            for other in ties[peg]:
                piles[other].append(0)
    return piles


def _lift(piles, peg, tied):
    # A tied peg has nothing above the 0 of this pair but other 0s, so any one of them may be taken.
    piles[peg].pop()
    for other in tied:
        piles[other].pop()


def _taken_down(piles, ties):
    """The form of the cord with these piles."""
    bottoms = [0 for _ in piles]
    form = []
    peg = _least_free(piles, bottoms)
    while peg > 0:
        form.append((peg, piles[peg][bottoms[peg]]))
        bottoms[peg] += 1
        for other in ties[peg]:
            bottoms[other] += 1
        peg = _least_free(piles, bottoms)
    return tuple(form)


def _least_free(piles, bottoms):
    """The least peg with winds at the bottom of its pile, 0 if there is none."""
    for peg in range(1, len(piles)):
        if bottoms[peg] < len(piles[peg]) and piles[peg][bottoms[peg]] != 0:
            return peg
    return 0


def turned_back(cord):
    """The cord back."""
    return tuple([(peg, -winds) for peg, winds in reversed(cord)])


def length_on(wall, form):
    """The length of a form."""
    total = 0
    for peg, winds in form:
        slip = wall[0][peg - 1]
        if slip == 0:
            total += abs(winds)
        else:
            total += min(winds, slip - winds)
    return total
