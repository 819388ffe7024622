import random
import unittest

from pulledpegs.errors import BadCord, BadGallery, BadNumber, BadPicture
from pulledpegs.frames import hangs_on, hooked, least_falls, safe_pictures, wall_rule
from pulledpegs.galleries import hanging, is_gallery
from tests.hung import FREE, GALLERIES, SWAP, end_of, in_wall, pictures_of, random_gallery
from tests.near import is_exactly
from tests.sets import least_of, subsets


def galleries_to_try():
    chance = random.Random(211)
    yield from GALLERIES
    for pegs, pictures in ((2, 2), (3, 3), (4, 3), (5, 4)):
        for _ in range(15):
            yield random_gallery(chance, pegs, pictures)


class Frames(unittest.TestCase):
    def test_wall_rule_and_least_falls(self):
        nones, nothing, bare = 0, 0, 0
        for gallery in galleries_to_try():
            ends = {pulled: end_of(gallery, pulled) for pulled in subsets(in_wall(gallery))}
            for picture in pictures_of(gallery):
                kept = [tuple(peg for peg in in_wall(gallery) if peg not in pulled) for pulled in ends if picture in ends[pulled]]
                rule = least_of(kept)
                self.assertTrue(is_exactly(wall_rule(gallery, picture), None if rule == ((),) else rule), (gallery, picture))
                falls = least_of([pulled for pulled in ends if picture not in ends[pulled]])
                self.assertTrue(is_exactly(least_falls(gallery, picture), falls), (gallery, picture))
                nones += rule == ((),)
                nothing += falls == ()
                bare += falls == ((),)
        # What hangs without any wall peg falls by nothing, and the other way round.
        self.assertEqual(nones, nothing)
        self.assertGreater(nones, 10)
        self.assertGreater(bare, 10)

    def test_told_rules(self):
        self.assertEqual([wall_rule(GALLERIES[5], picture) for picture in (1, 2, 3, 4)], [((1,),)] * 4)
        self.assertEqual([wall_rule(GALLERIES[3], picture) for picture in (1, 2)], [None, None])
        self.assertEqual([least_falls(GALLERIES[3], picture) for picture in (1, 2)], [(), ()])
        self.assertEqual([wall_rule(GALLERIES[6], 1), least_falls(GALLERIES[6], 1)], [(), ((),)])
        self.assertEqual([wall_rule(GALLERIES[0], 1), least_falls(GALLERIES[0], 1)], [((1, 2),), ((1,), (2,))])

    def test_hangs_on(self):
        seen = set()
        for gallery in galleries_to_try():
            hung = end_of(gallery, ())
            for picture in pictures_of(gallery):
                due = []
                for other in pictures_of(gallery):
                    rest = tuple(one for one in pictures_of(gallery) if one != other)
                    if other != picture and picture in hung and picture not in end_of(gallery, (), rest):
                        due.append(other)
                self.assertTrue(is_exactly(hangs_on(gallery, picture), tuple(due)), (gallery, picture))
                seen.add((picture in hung, len(due)))
        self.assertLess({(False, 0), (True, 0), (True, 1), (True, 2)}, seen)
        self.assertEqual([hangs_on(GALLERIES[5], picture) for picture in (1, 2, 3, 4)], [(), (1,), (1, 2), (1, 2, 3)])
        self.assertEqual([hangs_on(GALLERIES[4], picture) for picture in (1, 2, 3)], [(2, 3), (1, 3), (1, 2)])
        # It would hang on the other one, but it does not hang at all.
        self.assertEqual(hangs_on((FREE, (1, 0, 0, 0), ((), ((1, 1),))), 2), ())

    def test_safe_pictures(self):
        for gallery in galleries_to_try():
            ends = {pulled: end_of(gallery, pulled) for pulled in subsets(in_wall(gallery))}
            for k in list(range(7)) + [10 ** 39]:
                due = tuple(picture for picture in pictures_of(gallery)
                            if all(picture in ends[pulled] for pulled in ends if len(pulled) <= k))
                self.assertTrue(is_exactly(safe_pictures(gallery, k), due), (gallery, k))
        two_ways = (FREE, (0, 0, 0, 0), (((1, 1), (2, 1)), ((1, 1), (2, 1), (3, 1)), ((1, 1),), SWAP))
        self.assertEqual([safe_pictures(two_ways, k) for k in range(5)], [(1, 2, 3, 4), (1, 2), (2,), (), ()])

    def test_hooked(self):
        for gallery in galleries_to_try():
            before = repr(gallery)
            for picture in pictures_of(gallery):
                for cord in ((), ((1, 1),), ((len(gallery[1]), -7), (1, 2))):
                    new = hooked(gallery, picture, cord)
                    self.assertIs(is_gallery(new), True)
                    self.assertEqual(new[:2], gallery[:2])
                    self.assertEqual([new[2][other - 1] == gallery[2][other - 1] for other in pictures_of(gallery) if other != picture],
                                     [True] * (len(gallery[2]) - 1))
                    self.assertEqual(new[2][picture - 1], cord)
                    self.assertEqual(hanging(new, ()), end_of(new, ()))
                    self.assertEqual(hooked(new, picture, gallery[2][picture - 1]), gallery)
            self.assertEqual(repr(gallery), before)

    def test_errors_in_their_order(self):
        gallery = GALLERIES[3]
        for function, rest in ((wall_rule, ()), (least_falls, ()), (hangs_on, ()), (hooked, (None,))):
            for thing in (None, (), gallery[:2], list(gallery), (FREE, (0, 0, 0, 3), gallery[2])):
                with self.assertRaises(BadGallery) as caught:
                    function(thing, 0, *rest)
                self.assertIs(caught.exception.thing, thing)
            for picture in (0, 3, True, None, "1", (1,)):
                with self.assertRaises(BadPicture) as caught:
                    function(gallery, picture, *rest)
                self.assertIs(caught.exception.thing, picture)
        for cord in (None, ((5, 1),), ((1, 0),), [(1, 1)], ((1, True),)):
            with self.assertRaises(BadCord) as caught:
                hooked(gallery, 2, cord)
            self.assertIs(caught.exception.thing, cord)

    def test_numbers(self):
        for k in (-1, True, False, None, "1", (1,), [1], -(10 ** 39), ()):
            with self.assertRaises(BadNumber) as caught:
                safe_pictures(GALLERIES[0], k)
            self.assertIs(caught.exception.thing, k)
            with self.assertRaises(BadGallery):
                safe_pictures(None, k)
