"""Values of every kind, for the places where they are wrong."""

from pulledpegs.houses import Room


def nested(depth, inside=1):
    for _ in range(depth):
        inside = (inside,)
    return inside


def room_with(names, slips=(0, 0, 0, 0)):
    room = Room((slips, ()))
    for name, cord in names:
        room.put(name, cord)
    return room


ROOM = room_with((("a", ((1, 1),)), ("b", ((2, 1),))))

# None of these is a wall, a set, a cord, a slide or a certificate; () is a set and a cord, so it is not here.
ODD = [
    None, True, False, 0, 1, -1, 7, 10 ** 39, -(10 ** 39), "", "a", "pegs", "pegs 0 0 rails", " " * 2000, "join\n0",
    [], [1], [(1, 1)], [[0, 0], []], {}, {1: 2}, {"wall": None}, [{}], ({},), ([],), ((),), ((), ()), (None,), (True,),
    (None, None), ("", ""), ("join",), (0, 1, 2), ((0,), (0,), (0,)), ((1, 1), 1), (((1, 1),),), nested(12), (0,) * 3000,
    ((1, 0),) * 900, ("join", "join"), (False, True), nested(11, (1, 1)), [()] * 500, {"a": [nested(9)]},
    ROOM, (ROOM,), [ROOM], {"room": ROOM}, (ROOM, 1), (1, ROOM), ((1, ROOM),), ((ROOM, 1),), (ROOM, ROOM, ROOM), nested(11, ROOM),
]

NO_WALLS = ODD + [
    (), ((), ()), ((0,) * 11, ()), ((1,), ()), ((31,), ()), ((-2,), ()), ((True,), ()), ((False, 0), ()), ((0, None), ()),
    ((0, "2"), ()), ([0, 0], ()), ((0, 0), []), [(0, 0), ()], ((0, 0), None), ((0, 0),), ((0, 0), (), ()),
    ((0, 0), ((2, 1),)), ((0, 0), ((1, 1),)), ((0, 0), ((1, 3),)), ((0, 0), ((0, 1),)), ((0, 0), ((1, 2), (1, 2)),),
    ((0, 0, 0), ((1, 3), (1, 2))), ((0, 0, 0), ((2, 3), (1, 3))), ((0, 0), ((1, 2, 3),)), ((0, 0), ((1,),)),
    ((0, 0), ([1, 2],)), ((0, 0), ((True, 2),)), ((0, 0), ((1, "2"),)), ((0, 0), (1, 2)), ((0, 0), ((-1, 2),)),
    ((0, 10 ** 39), ()), ((0, 0), ((1, 10 ** 39),)), ((0, 0), ((1, 2), None)), (0, 0), ("pegs 0 0",), "pegs 0 0",
    ((0, 2, 0, 0), ((1, 3), (2, 4), (2, 3))), ((0, (2,)), ()), ((0, 0), ((1, nested(9)),)),
]

# For walls with four pegs.
NO_SETS = ODD + [
    (0,), (5,), (2, 1), (1, 1), (1, 2, 2), (1, 2, 5), (-1, 1), (True,), (True, 2), (1, None), ("1",), (1, "2"), [1, 2],
    (1, (2,)), {1: True}, (1, [2]), (10 ** 39,), (1, 3, 2),
]

# For walls with four pegs.
NO_CORDS = ODD + [
    ((1, 0),), ((0, 1),), ((5, 1),), ((-1, 1),), ((1, True),), ((1, False),), ((True, 1),), ((1, 1), (2, 0)), ((1,),),
    ((1, 1, 1),), (1, 1), ((1, 1), None), ([1, 1],), [(1, 1)], ((1, "1"),), (("1", 1),), ((1, None),), ((1, (1,)),),
    ((1, 1), (2, 1), (3, 1), (4, 1), (5, 1)), {(1, 1): 1}, "1:1", ((1, 1), [2, 1]), ((10 ** 39, 1),),
]

# For any cord with at most ten pairs.
NO_SLIDES = ODD + [
    (), ("join", -1), ("turn", -1), ("past", -1), ("join", 10), ("turn", 10), ("past", 10), ("join", True),
    ("turn", False), ("past", True), ("join", 0, 0), ("turn",), ("slide", 0), ("", 0), ("JOIN", 0), (None, 0), (0, "join"),
    (0, 0), ["join", 0], ["turn", 0], ("turn", None), ("turn", "0"), ("turn", (0,)), (("turn", 0),), ("turn ", 0),
    ("join", 10 ** 39), ("past", -(10 ** 39)), ([], 0), ({}, 0), (["turn"], 0), ("turn", [0]),
]

# For four pegs.
NO_RULES = ODD + [
    ((1,), (1, 2)), ((1, 2), (2,)), ((2,), (1,)), ((1, 2), (1, 2)), ((1,), (1,)), ((), (1,)), ((1,), ()), ((5,),), ((0,),),
    ((-1,),), ((1, 5),), ((2, 1),), ((1, 1),), ((True,),), ((1, True),), ((1,), (True, 2)), ([1],), [(1,)], ((1,), [2]),
    ((1,), None), ((1,), 2), (1, 2), ((1, (2,)),), ((None,),), (("1",),), {(1,): True}, ((1, 3), (1, 2)), "1",
    ((1, 2), (1, 2, 3)), ((1, 2, 3), (2, 3)), ((1, 2), (1, 4), (3,), (1, 3, 4)), ((1, 2), (3, 4), (2, 3)), ((10 ** 39,),),
    ((1, 2, 3, 4), (1, 2, 3, 4)), ((1, 2), (1, 3), (1, 2, 3, 4)),
]

# For four pegs, of which 1 and 3, and 2 and 4, have a rail between them.
NO_ORDERS = ODD + [
    (), (1, 3), (2, 4), (1, 3, 2), (2, 4, 1), (1, 1), (1, 2, 1), (0,), (5,), (1, 5), (-1,), (True,), (True, 2), (1, None),
    (2, True), [1, 2], (1, [2]), ("1",), (1, (2,)), {1: 2}, (1, 2, 3, 4, 5), (1, 2, 3, 4, 4), (10 ** 39,),
]

# Tuples of pegs of four, in which none may stand twice.
NO_PULLS = ODD + [
    (1, 1), (1, 2, 1), (4, 4), (0,), (5,), (1, 5), (-1,), (True,), (1, True), (False,), (1, None), [1], [], (1, [2]), ("1",),
    (1, (2,)), {1: 2}, (1, 2, 3, 4, 1), (10 ** 39,), (1, 2, 3, 4, 5),
]

NO_TABLES = ODD + [
    (False,) * 15, (False,) * 17, (0,) * 16, (1,) * 16, (False,) * 15 + (1,), (0,) + (False,) * 15, [False] * 16,
    (False,) * 15 + (None,), (False,) * 15 + ((),), ("",) * 16, (False,) * 15 + ("True",), ((False,) * 16,), (),
    (False,) * 8, (True,) * 32, {number: False for number in range(16)}, (False,) * 15 + ([],), (False,),
]

# For the plain wall of ten pegs.
NO_PLAIN_CORDS = [thing for thing in NO_CORDS if thing != ((5, 1),) and not (isinstance(thing, tuple) and len(thing) == 5)]
NO_PLAIN_CORDS += [((11, 1),), ((10, 1), (11, 1)), ((10, 0),)]

NO_ROWS = [thing for thing in ODD if thing != ()] + [
    (0,), (11,), (1, 11), (-1,), (1, 0), (True,), (1, True), (False,), [1], [1, 2], (1, None), ("1",), (1, (2,)), {1: 2},
    (10 ** 39,), (1,) * 20 + (11,),
]

# For the wall of four pegs with the slip numbers 0, 2, 3, 0, and rails between 1 and 3, and between 2 and 4.
NO_CHANGES = ODD + [
    (), ("rail",), ("rail", 1), ("rail", 4, 1), ("rail", 1, 3), ("rail", 1, 1), ("rail", 1, 5), ("rail", 0, 1), ("rail", True, 4),
    ("rail", 1, 4, 4), ["rail", 1, 4], ("Rail", 1, 4), ("rail", (1, 4)), ("rail", 1, None), ("wear", 1), ("wear", 1, 1),
    ("wear", 1, 31), ("wear", 1, 0), ("wear", 1, -2), ("wear", 2, 2), ("wear", 3, 3), ("wear", 3, 2), ("wear", 0, 2),
    ("wear", 5, 2), ("wear", True, 2), ("wear", 1, True), ("wear", 1, "2"), ("wear", 1, 2, 2), ("wear", 1, 10 ** 39),
    ("bring", 1, 4), ("bring", 4, 1), ("bring", 1, 2), ("bring", 2, 3), ("bring", 1, 3), ("bring", 1, 1), ("bring", 1),
    ("double", 2), ("double", 3), ("double", 0), ("double", 5), ("double", True), ("double",), ("double", 1, 4), ("double", "1"),
    ["double", 1], ("carry", 1, 2), ("carry", 2, 1), ("carry", 1, 4), ("carry", 1, 1), ("carry", 1, 3), ("carry", 1), "rail",
    ("", 1, 4), (None, 1, 4), (1, 4), ([], 1, 4), ({}, 1), (("rail", 1, 4),), ("rail", {}, []), ("double", ()), ("join", 0),
]

# Of four pegs, of which 1, 2 and 3 are in the wall.
NO_PULLED = NO_SETS + [(4,), (1, 4), (1, 2, 3, 4), (0,), (3, 4)]

# Of two pictures.
NO_PICTURES = [thing for thing in ODD if not (type(thing) is int and thing == 1)] + [3, (1,), [2], "1", 10 ** 38, (2, 1), -2, {2: 2}]

# For a number from 0 on.
NO_KS = [thing for thing in ODD if not (type(thing) is int and thing >= 0)] + [-2, (0,), [0], "0", {0: 0}, (1, 2), ()]

# For an integer from 1 to 4.
NO_FOURTHS = [thing for thing in ODD if not (type(thing) is int and thing == 1)] + [5, -4, (4,), [4], "4", (), {4: 4}]

SMALL = ((0, 2), ())
SMALL_CORDS = (((1, 1),), ((2, 1), (1, -1)))

NO_GALLERIES = ODD + [
    (), SMALL, (SMALL,), (SMALL, (0, 0)), (SMALL, (0, 0), SMALL_CORDS, ()), (SMALL, SMALL_CORDS, (0, 0)), ((0, 0), SMALL, SMALL_CORDS),
    [SMALL, (0, 0), SMALL_CORDS], (list(SMALL), (0, 0), SMALL_CORDS), (SMALL, [0, 0], SMALL_CORDS), (SMALL, (0, 0), list(SMALL_CORDS)),
    (SMALL, (0,), SMALL_CORDS), (SMALL, (0, 0, 0), SMALL_CORDS), (SMALL, (), SMALL_CORDS), (SMALL, (0, 3), SMALL_CORDS),
    (SMALL, (-1, 0), SMALL_CORDS), (SMALL, (0, True), SMALL_CORDS), (SMALL, (False, 0), SMALL_CORDS), (SMALL, (None, 0), SMALL_CORDS),
    (SMALL, ("0", 0), SMALL_CORDS), (SMALL, ((0,), 0), SMALL_CORDS), (SMALL, (0, [1]), SMALL_CORDS), (SMALL, (0, 10 ** 39), SMALL_CORDS),
    (SMALL, (0, 0), ()), (SMALL, (0, 0), (((1, 1),),) * 9), (SMALL, (0, 0), (((3, 1),),)), (SMALL, (0, 0), (((1, 0),),)),
    (SMALL, (0, 0), (((1, True),),)), (SMALL, (0, 0), (((True, 1),),)), (SMALL, (0, 0), ([(1, 1)],)), (SMALL, (0, 0), (([1, 1],),)),
    (SMALL, (0, 0), (None,)), (SMALL, (0, 0), (((1, 1),), None)), (SMALL, (0, 0), ((1, 1),)), (SMALL, (0, 0), ROOM),
    (SMALL, (0, ROOM), SMALL_CORDS), (SMALL, (0, 0), (ROOM,)), (ROOM, (0, 0), SMALL_CORDS), (((0, 1), ()), (0, 0), SMALL_CORDS),
    (((0, 2), ((2, 1),)), (0, 0), SMALL_CORDS), (((0,) * 11, ()), (0,) * 11, SMALL_CORDS), (SMALL, (0, 1), (((1, 1),), ((1, 1), (2,)))),
    (SMALL, {0: 0, 1: 0}, SMALL_CORDS), (SMALL, (0, 0), {0: ()}), (SMALL, "00", SMALL_CORDS), (SMALL, (0, 2), (((1, 1),),)),
]

# For four pegs, of which 1 and 3, and 2 and 4, have a rail between them.
NO_REPORTS = ODD + [
    (((1, 2), 1),), (((1, 2), 0),), (((1, 2), None),), (((1, 2), "True"),), (((1, 2),),), (((1, 2), True, True),), ((True, (1, 2)),),
    (((2, 1), True),), (((1, 1), True),), (((0,), True),), (((5,), True),), (((1, 5), True),), (((True,), True),), (([1], True),),
    ([(1,), True],), [((1,), True)], (((1,), True), ((1,), False)), (((1,), True), ((1,), True)), (((2,), True), ((1,), True)),
    (((1,), False), ((1,), False)), (((1,), True), ((), True)), (((1,), True), None), (((1,), True), ((2,), 1)), ((1,), True),
    (((1, None), True),), ((("1",), True),), (((1,), [True]),), {((1,), True): 1}, (((1, (2,)), True),), (((10 ** 39,), True),),
    (((1,), ROOM),), ((ROOM, True),), (((1, ROOM), True),), (((1, 3), True), ((1, 2, 3), True)), (None, ((1,), True)), "1",
]

# For a room with the names a and b and four pegs.
NO_PROMISES = ODD + [
    (), ("alike",), ("alike", "a"), ("alike", "b", "a"), ("alike", "a", "a"), ("alike", "a", "c"), ("alike", "c", "a"), ("alike", "", "a"),
    ("alike", "a", "b", "b"), ["alike", "a", "b"], ("Alike", "a", "b"), ("alike", "a", ("b",)), ("alike", 1, 2), ("alike", None, "b"),
    ("lasts", "a", "a"), ("lasts", "a"), ("lasts", "a", "c"), ("lasts", "d", "a"), ("lasts", "a", "b", "a"), ["lasts", "a", "b"],
    ("lasts", "a", True), ("lasts", ["a"], "b"), ("lasts", {}, "b"), ("keeps", "a"), ("keeps", "a", 1), ("keeps", "a", (2, 1)),
    ("keeps", "a", (1, 1)), ("keeps", "a", (0,)), ("keeps", "a", (5,)), ("keeps", "a", (True,)), ("keeps", "a", [1]), ("keeps", "a", "1"),
    ("keeps", "a", None), ("keeps", "c", (1,)), ("keeps", ("a",), (1,)), ("keeps", ["a"], (1,)), ("keeps", (1,), "a"),
    ("keeps", "a", (1,), (1,)), ("falls", "a"), ("falls", "c", ()), ("falls", "a", (1, None)), ("falls", "a", (4, 3)), ("falls", "A", ()),
    ("falls", "a", ((),)), ("Falls", "a", ()), ("hangs", "a", (1,)), ("", "a", (1,)), (None, "a", (1,)), ("a", "keeps", (1,)),
    ("keeps", ROOM, (1,)), ("keeps", "a", ROOM), ("keeps", "a", (ROOM,)), (ROOM, "a", "b"), ("alike", "a", ROOM), ("alike", ROOM, "b"),
    {"alike": ("a", "b")}, "alike a b", ("lasts", "a", "b" * 9), ("lasts", 10 ** 39, "b"), (("keeps", "a", (1,)),), ("keeps", "a", "b"),
    ("alike", "a", (1,)), ("holds",), ("falls", "a", {}), ("keeps", {}, ()), ("lasts", "a", ""), ("falls", "", ()),
]

NO_NAMES = [thing for thing in ODD if thing not in ("a", "pegs")] + [
    "A", "aB", "abcdefghi", "a1", "a b", " a", "a ", "a\n", "\na", "_a", "a-b", "{", "`", "z" * 2000, ("a",), ["a"], {"a": 1}, (), 97,
]
