"""The examples of the document, word for word."""

import unittest
from pathlib import Path

from pulledpegs import errors

WALLS = r"""
>>> from pulledpegs.walls import are_tied, hangs_together, is_right, is_set, parts_of, wall_of_text, wall_text
>>> wall = ((0, 2, 0, 0), ((1, 3), (2, 4)))
>>> [is_right(wall), is_right(((1,), ())), are_tied(wall, 1, 2), hangs_together(wall, (1, 3)), hangs_together(wall, (1, 2, 3)), parts_of(wall, (1, 3, 4)), parts_of(wall, (1, 3)), is_set(wall, (2, 1))]
[True, False, True, False, True, ((1, 3, 4),), ((1,), (3,)), False]
>>> [wall_text(wall), wall_of_text('pegs 0 5') == ((0, 5), ())]
['pegs 0 2 0 0 rails 1-3 2-4', True]
"""

CORDS_AND_ROUNDS = r"""
>>> from pulledpegs.cords import are_alike, back, behind, form_of, judge_alike, length_of, slid, swap
>>> wall = ((0, 3, 0), ((1, 3),))
>>> [form_of(wall, ((3, 1), (1, 2))), form_of(wall, ((2, 5), (1, 1), (3, 2), (1, -1))), form_of(wall, ((2, 1), (2, 2), (1, 1))), length_of(wall, ((2, 2), (1, -4))), back(wall, ((1, 2), (2, -1)))]
[((1, 2), (3, 1)), ((2, 2), (3, 2)), ((1, 1),), 5, ((2, 1), (1, -2))]
>>> [slid(wall, ((1, 1), (3, 1), (1, -1)), ('past', 0)), slid(wall, ((1, 1), (1, -1)), ('join', 0)), slid(wall, ((2, 7),), ('turn', 0)), swap(wall, ((1, 1),), ((2, 1),)), are_alike(wall, swap(wall, ((1, 1),), ((3, 1),)), ()), judge_alike(wall, ((1, 1),), ((2, 1),))]
[((3, 1), (1, 1), (1, -1)), (), ((2, 1),), ((1, 1), (2, 1), (1, -1), (2, -1)), True, ('forms', ((1, 1),), ((2, 1),))]
>>> from pulledpegs.rounds import is_round, round_form, round_holds
>>> [round_form(wall, ((2, 1), (1, 4), (2, -1))), is_round(wall, ((1, 1), (2, 1)), ((2, 1), (1, 1))), round_holds(wall, ((1, 1), (2, 1)), ((2, 1), (1, 1)), ('cord', ((2, 1),))), is_round(wall, ((2, 1),), ((2, 2),))]
[((1, 4),), True, True, False]
>>> slid(wall, ((1, 1), (2, 1)), ('past', 0))
raises BadSlide(('past', 0))
"""

PULLED = r"""
>>> from pulledpegs.pulled import cord_on, does_keep, first_fall, judge_keep, keep_holds
>>> wall, cord = ((0, 2, 0), ((1, 3),)), ((1, 1), (2, 1), (1, -1), (2, 1))
>>> [cord_on(wall, cord, (1,)), does_keep(wall, cord, (1, 2)), does_keep(wall, cord, (2, 3)), judge_keep(wall, cord, (1, 2)), keep_holds(wall, cord, (2,), ('slides', (('join', 0), ('turn', 0)))), first_fall(wall, cord, (3, 2)), first_fall(wall, cord, (3,))]
[((1, 1), (1, -1)), True, False, ('rest', ((1, 1), (2, 1), (1, -1), (2, 1))), True, 2, None]
"""

RULES = r"""
>>> from pulledpegs.rules import both, either, falling_sets, is_rule, judge_rule, keeps, kept_by_size, least_pulls, rule_of
>>> rule = ((1, 2), (3,))
>>> [keeps(3, rule, (1, 3)), falling_sets(3, rule), least_pulls(3, rule), either(3, rule, ((2,),)), both(3, rule, ((2,),)), kept_by_size(3, rule), is_rule(3, ((1,), (1, 2))), falling_sets(2, ())]
[True, ((1,), (2,)), ((1, 3), (2, 3)), ((2,), (3,)), ((1, 2), (2, 3)), (0, 1, 3, 1), False, ((1, 2),)]
>>> [rule_of(((0, 2, 0), ((1, 3),)), ((1, 1), (2, 1), (1, -1), (2, 1), (3, 2))), judge_rule(((0, 0), ()), ((1, 1), (2, 1), (1, -1), (2, -1)))]
[((1, 2), (3,)), ('rule', ((1, 2),), ((1,), (2,)))]
"""

NESTS_AND_WISHES = r"""
>>> from pulledpegs.nests import nest, order_for
>>> from pulledpegs.wishes import all_rules, cord_for, fewest_pairs, has_cord, judge_both, judge_table, judge_wish, many_rules, table_of, wish_holds
>>> free, railed = ((0, 0), ()), ((0, 0, 0), ((1, 3), (2, 3)))
>>> [nest(free, (2, 1)), order_for(free, (2,)), has_cord(railed, ((1, 3),)), judge_wish(railed, ((1, 2), (3,)))[0], wish_holds(railed, ((1, 3),), ('parted', (1, 3), (3,))), fewest_pairs(railed, ((1, 2), (3,)))]
[((2, 1), (1, 1), (2, -1), (1, -1)), (2,), False, 'cord', True, 5]
>>> [all_rules(free), many_rules(((0, 0), ((1, 2),))), table_of(2, ((1, 2),)), judge_table(free, (False, True, False, False)), judge_both(railed, ((1,),), ((3,),))[:2], judge_both(railed, ((1,),), ((2,),))[0]]
[((), ((1,),), ((1,), (2,)), ((1, 2),), ((2,),)), 4, (False, False, False, True), ('more', (1,), (1, 2)), ('parted', (1, 3)), 'cord']
>>> wish_holds(free, ((1, 2),), ('cord', ((1, 2), (2, 1), (1, -2), (2, -1))))
True
"""

COUNTS = r"""
>>> from pulledpegs.counts import count_of, counted_rows, depth_of, row_holds
>>> swapped = ((1, 1), (2, 1), (1, -1), (2, -1))
>>> [count_of(swapped, (1,)), count_of(swapped, (1, 2)), count_of(swapped, (2, 1)), counted_rows(((1, -2),), 2), depth_of(swapped), row_holds(swapped, ('row', (2, 1), -1)), depth_of(((1, 1), (1, -1)))]
[0, 1, -1, (((), 1), ((1,), -2), ((1, 1), 3)), 2, True, None]
"""

CHANGES = r"""
>>> from pulledpegs.allcords import after_change, change_holds, judge_change
>>> from pulledpegs.changes import changed_cord, is_change, led_rule, wall_behind
>>> free = ((0, 0, 0), ())
>>> [wall_behind(free, ('rail', 1, 3)), wall_behind(((4, 4, 0), ()), ('bring', 1, 2)), wall_behind(((0, 0), ((1, 2),)), ('double', 1)), changed_cord(free, ('carry', 1, 2), ((1, 2), (3, 1))), changed_cord(free, ('double', 1), ((1, -2),)), is_change(((4, 0), ()), ('wear', 1, 3)), led_rule(free, ('double', 1), ((1, 2),))]
[((0, 0, 0), ((1, 3),)), ((4, 0), ()), ((0, 0, 0), ((1, 2), (2, 3))), ((2, 1), (1, 2), (2, -1), (3, 1)), ((4, -1), (1, -1), (4, -1), (1, -1)), False, ((1, 2), (2, 4))]
>>> [after_change(free, ((1, 2),), ('rail', 1, 2), (1, 2)), after_change(free, ((1, 2),), ('rail', 1, 2), (1, 2, 3)), judge_change(free, ((1, 2),), ('rail', 1, 2), (1, 2)), judge_change(free, ((1, 2), (3,)), ('rail', 1, 2), (1, 3)), judge_change(free, ((3,),), ('bring', 1, 2), (2,)), after_change(free, ((1, 2),), ('bring', 1, 2), (1,)), after_change(free, ((1,),), ('wear', 1, 2), (1,))]
['never', 'either', ('never', ((1,), (2,))), ('sure', (3,)), ('sure', (3,)), 'never', 'either']
>>> change_holds(free, ((1,),), ('wear', 1, 2), (1,), ('either', ((1, 1),), ((1, 2),)))
True
"""

CHAINS = r"""
>>> from pulledpegs.chains import cord_led, is_firm, lost_sets, new_rule, walls_led
>>> free, cord = ((0, 0, 0), ()), ((1, 1), (2, 1), (1, -1), (2, -1), (3, 2))
>>> [new_rule(free, ('rail', 1, 2), cord), lost_sets(free, ('rail', 1, 2), cord), is_firm(free, ('rail', 1, 3), cord), new_rule(free, ('wear', 3, 2), cord), lost_sets(free, ('bring', 1, 3), cord), walls_led(free, (('rail', 1, 2), ('wear', 3, 4)))]
[((3,),), ((1, 2),), True, ((1, 2),), (), (((0, 0, 0), ()), ((0, 0, 0), ((1, 2),)), ((0, 0, 4), ((1, 2),)))]
>>> cord_led(free, (('wear', 3, 2), ('carry', 1, 2)), ((1, 1),))
((2, 1), (1, 1), (2, -1))
"""

FRAMES = r"""
>>> from pulledpegs.galleries import hanging, is_gallery, judge_picture, picture_holds, wall_pegs
>>> from pulledpegs.frames import hangs_on, least_falls, safe_pictures, wall_rule
>>> gallery = (((0, 0, 0), ()), (0, 0, 1), (((1, 1), (2, 1)), ((3, 1), (2, 1), (3, -1), (2, -1))))
>>> [wall_pegs(gallery), hanging(gallery, ()), hanging(gallery, (1,)), hanging(gallery, (2,)), picture_holds(gallery, (1, 2), 1, ('falls', (1,))), picture_holds(gallery, (2,), 2, ('falls', (2,))), judge_picture(gallery, (1,), 2)]
[(1, 2), (1, 2), (1, 2), (1,), True, True, ('stays', (1, 2))]
>>> [wall_rule(gallery, 1), wall_rule(gallery, 2), least_falls(gallery, 2), hangs_on(gallery, 2), safe_pictures(gallery, 1)]
[((1,), (2,)), ((2,),), ((2,),), (1,), (1,)]
>>> ring = (((0, 0), ()), (2, 1), (((1, 1),), ((2, 1),)))
>>> [hanging(ring, ()), wall_rule(ring, 1), least_falls(ring, 1)]
[(1, 2), None, ()]
"""

ORDERS = r"""
>>> from pulledpegs.orders import earliest, fall_times, judge_turn, latest, share_of, turn_holds
>>> rule = ((1, 2), (3,))
>>> [fall_times(3, rule), share_of(3, rule, 3), share_of(3, rule, 1), earliest(3, rule), latest(3, rule), judge_turn(3, rule, (1, 2, 3)), judge_turn(3, rule, (1, 2)), turn_holds(3, rule, (1, 3), ('win', 1)), fall_times(2, ())]
[(0, 0, 4, 2), 4, 1, 2, 3, ('win', 3), ('lose',), True, (2, 0, 0)]
"""

REPORTS = r"""
>>> from pulledpegs.reports import judge_reports, judge_sure, many_fitting, open_sets, settled_rule, state_of
>>> wall, seen = ((0, 0, 0), ((1, 3), (2, 3))), (((1, 2), False), ((1, 2, 3), True))
>>> [state_of(wall, seen, (3,)), state_of(wall, seen, (2,)), judge_sure(wall, seen, (2, 3)), judge_sure(wall, seen, (1,)), open_sets(wall, seen), settled_rule(wall, seen), many_fitting(wall, ())]
['keeps', 'falls', ('keeps', (1, 2, 3)), ('falls', ((1, 2),)), (), ((3,),), 10]
>>> [judge_reports(wall, (((1, 2), False), ((1, 3), True), ((3,), False))), judge_reports(wall, (((), True),))]
[('quarrel', (1, 3), ((1, 2), (3,))), ('quarrel', (), ())]
"""

PAIRS = r"""
>>> from pulledpegs.pairs import fall_ways, judge_lasts, lasts, lasts_holds
>>> wall, nest, both = ((0, 0, 0), ()), ((1, 1), (2, 1), (1, -1), (2, -1)), ((1, 1), (2, 1))
>>> [lasts(wall, both, nest), judge_lasts(wall, both, nest), lasts_holds(wall, nest, both, ('set', (1, 3))), fall_ways(wall, both, nest), fall_ways(wall, ((1, 1),), ((2, 1),)), fall_ways(wall, ((1, 1),), ((1, 2),))]
[True, ('lasts',), True, ('second',), ('first', 'second'), ('both',)]
"""

ROOMS = r"""
>>> from pulledpegs.houses import Room
>>> room = Room(((0, 0), ()))
>>> [room.put('a', ((1, 1),)), room.put('b', ((2, 1),)), room.swap('a', 'a', 'b'), room.make(('keeps', 'a', (1, 2))), room.names(), room.text()]
[None, None, None, None, (('a', ((1, 1), (2, 1), (1, -1), (2, -1))), ('b', ((2, 1),))), 'pegs 0 0\ncord a 1:1 2:1 1:-1 2:-1\ncord b 2:1\npromise keeps a 1 2']
>>> [room.undo(), room.promises(), room.redo(), room.copied().is_same(room), room.leave('b'), len(room.names())]
[None, (), None, True, None, 1]
>>> room.make(('falls', 'a', (1, 2)))
raises Broken(('falls', 'a', (1, 2)), ('rest', ((1, 1), (2, 1), (1, -1), (2, -1))))
>>> from pulledpegs.texts import read_room
>>> read_room('pegs 0 0\ncord a 1:0')
raises BadText(2)
"""


def shown(code, names):
    """What stands below a line of code: its result, "raises" and the error, or "" for a statement."""
    try:
        return repr(eval(code, names))
    except SyntaxError:
        exec(code, names)
        return ""
    except errors.PegError as error:
        told = ", ".join(repr(value) for value in vars(error).values())
        return f"raises {error.__class__.__name__}({told})"


class Examples(unittest.TestCase):
    def run_through(self, text):
        names = {}
        lines = text.strip().split("\n")
        for at, line in enumerate(lines):
            if line.startswith(">>> "):
                due = lines[at + 1] if at + 1 < len(lines) and not lines[at + 1].startswith(">>> ") else ""
                with self.subTest(line=line):
                    self.assertEqual(shown(line[4:], names), due)

    def test_walls(self):
        self.run_through(WALLS)

    def test_cords_and_rounds(self):
        self.run_through(CORDS_AND_ROUNDS)

    def test_pulled(self):
        self.run_through(PULLED)

    def test_rules(self):
        self.run_through(RULES)

    def test_nests_and_wishes(self):
        self.run_through(NESTS_AND_WISHES)

    def test_counts(self):
        self.run_through(COUNTS)

    def test_changes(self):
        self.run_through(CHANGES)

    def test_chains(self):
        self.run_through(CHAINS)

    def test_galleries_and_frames(self):
        self.run_through(FRAMES)

    def test_orders(self):
        self.run_through(ORDERS)

    def test_reports(self):
        self.run_through(REPORTS)

    def test_pairs(self):
        self.run_through(PAIRS)

    def test_rooms(self):
        self.run_through(ROOMS)

    def test_the_readme(self):
        text = (Path(__file__).resolve().parent.parent / "README.md").read_text(encoding="utf-8")
        # One block goes on with the names of those ahead of it.
        self.run_through("".join(block for block in text.split("```\n")[1::2] if block.startswith(">>> ")))
