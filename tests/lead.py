"""Changes of walls, by the document's words: which there are, and where they lead."""

import itertools


def railed(wall, i, j):
    return (min(i, j), max(i, j)) in wall[1]


def right_changes(wall):
    """All changes of a wall."""
    slips = wall[0]
    pegs = range(1, len(slips) + 1)
    found = set()
    for i, j in itertools.permutations(pegs, 2):
        rest = [peg for peg in pegs if peg not in (i, j)]
        if railed(wall, i, j):
            continue
        if i < j:
            found.add(("rail", i, j))
            if slips[i - 1] == slips[j - 1] and all(railed(wall, i, peg) == railed(wall, j, peg) for peg in rest):
                found.add(("bring", i, j))
        if all(railed(wall, j, peg) for peg in rest if railed(wall, i, peg)):
            found.add(("carry", i, j))
    for i in pegs:
        slip = slips[i - 1]
        for worn in range(2, 31):
            if slip == 0 or (worn < slip and slip % worn == 0):
                found.add(("wear", i, worn))
        if slip == 0 and len(slips) < 10:
            found.add(("double", i))
    return found


def names_behind(wall, change):
    """The new name of each peg."""
    pegs = range(1, len(wall[0]) + 1)
    if change[0] != "bring":
        return {peg: peg for peg in pegs}
    _, i, j = change
    left = [peg for peg in pegs if peg != j]
    names = {peg: at + 1 for at, peg in enumerate(left)}
    names[j] = names[i]
    return names


def led_wall(wall, change):
    """The new wall, built from which of its pegs have rails."""
    slips, many = list(wall[0]), len(wall[0])
    if change[0] == "wear":
        slips[change[1] - 1] = change[2]
    names = names_behind(wall, change)
    rails = {tuple(sorted((names[one], names[other]))) for one, other in wall[1]}
    if change[0] == "rail":
        rails.add(change[1:])
    if change[0] == "bring":
        del slips[change[2] - 1]
    if change[0] == "double":
        slips.append(0)
        rails |= {(peg, many + 1) for peg in range(1, many + 1) if railed(wall, change[1], peg)}
    return tuple(slips), tuple(sorted(rails))


def led_cord(wall, change, cord):
    names = names_behind(wall, change)
    new = len(wall[0]) + 1
    led = []
    for peg, winds in cord:
        if change[0] == "double" and peg == change[1]:
            for _ in range(abs(winds)):
                led += [(peg, 1), (new, 1)] if winds > 0 else [(new, -1), (peg, -1)]
        elif change[0] == "carry" and peg == change[1]:
            led += [(change[2], 1), (peg, winds), (change[2], -1)]
        else:
            led.append((names[peg], winds))
    return tuple(led)
