import itertools
import random
import unittest

from pulledpegs.errors import BadGallery, BadPicture, BadSet
from pulledpegs.galleries import hanging, is_gallery, judge_picture, picture_holds, wall_pegs
from tests.hung import FREE, GALLERIES, SWAP, all_certificates, end_of, ends, in_wall, pictures_of, random_gallery, right_certificates
from tests.near import is_exactly, near
from tests.sets import subsets, within

WALL = ((0, 2, 0), ((1, 3),))
CORDS = (((1, 1), (2, 1)), ((3, 1),))


class Galleries(unittest.TestCase):
    def test_right_ones(self):
        for gallery in GALLERIES + [(WALL, (0, 1, 2), CORDS), (WALL, (2, 2, 2), CORDS), (WALL, (0, 0, 0), ((),) * 8),
                                    (((0,) * 10, ()), (8,) * 10, (((10, -5),),) * 8), (((30,), ()), (1,), ((),))]:
            self.assertIs(is_gallery(gallery), True)
            self.assertEqual(wall_pegs(gallery), in_wall(gallery))

    def test_owners_just_wrong(self):
        for owners in ((0, 0), (0, 0, 0, 0), (), (0, 0, 3), (0, -1, 0), (0, True, 0), (False, 0, 0), (0, 0, None), (0, "1", 0), [0, 0, 0],
                       (0, 0, (1,)), None, 0, (0, 0, [0]), (0, 0, 10 ** 39)):
            self.check_wrong((WALL, owners, CORDS))

    def test_cords_just_wrong(self):
        for cords in ((), (((1, 1),),) * 9, (((4, 1),),), (((1, 0),),), (((1, 1),), ((0, 1),)), (((1, True),),), (((True, 1),),),
                      ([(1, 1)],), [((1, 1),)], (((1, 1, 1),),), (((1,),),), (None,), None, ((1, 1),), (((1, 1),), ((1, 1), (2, 0)))):
            self.check_wrong((WALL, (0, 0, 0), cords))

    def test_walls_just_wrong(self):
        for wall in (((0, 1, 0), ()), ((0, 2, 0), ((3, 1),)), ((0, 2, 0), [(1, 3)]), [(0, 2, 0), ()], ((0, 2, 0),), None, ((0, True, 0), ()),
                     ((0, 2), ()), ((0, 2, 0, 0), ()), ((0, 31, 0), ())):
            self.check_wrong((wall, (0, 0, 0), CORDS))

    def test_next_to_a_gallery(self):
        for thing in near((WALL, (0, 1, 2), CORDS)):
            if not is_gallery(thing):
                self.check_wrong(thing)
        right = [thing for thing in near((WALL, (0, 1, 2), CORDS)) if is_gallery(thing)]
        for thing in right:
            self.assertEqual([type(part) for part in thing], [tuple] * 3)
            self.assertNotIn(True, [owner is True for owner in thing[1]])
        # Owners one more or less, winds, pegs and slip numbers; rails are left out, or others.
        self.assertGreater(len(right), 20)
        self.check_wrong((CORDS, (0, 1, 2), WALL))
        self.check_wrong((WALL, CORDS, (0, 1, 2)))

    def check_wrong(self, thing):
        self.assertIs(is_gallery(thing), False, thing)
        for ask in (lambda: wall_pegs(thing), lambda: hanging(thing, None), lambda: judge_picture(thing, None, None),
                    lambda: picture_holds(thing, None, None, None)):
            with self.assertRaises(BadGallery) as caught:
                ask()
            self.assertIs(caught.exception.thing, thing)

    def test_errors_in_their_order(self):
        gallery = GALLERIES[3]
        for pulled in ((1,), (2,), (3, 1), (4, 3), (3, 3), (5,), (0,), (True,), [3], None, "3", (3, None)):
            for ask in (lambda: hanging(gallery, pulled), lambda: judge_picture(gallery, pulled, 3),
                        lambda: picture_holds(gallery, pulled, None, None)):
                with self.assertRaises(BadSet) as caught:
                    ask()
                self.assertIs(caught.exception.thing, pulled)
        for picture in (0, 3, -1, True, None, "1", (1,), [1], 10 ** 39):
            for ask in (lambda: judge_picture(gallery, (3,), picture), lambda: picture_holds(gallery, (3,), picture, None)):
                with self.assertRaises(BadPicture) as caught:
                    ask()
                self.assertIs(caught.exception.thing, picture)


class Hanging(unittest.TestCase):
    def check(self, gallery):
        hung = {}
        for pulled in subsets(in_wall(gallery)):
            found = ends(gallery, pulled)
            # In the end the same pictures hang, whichever falls first.
            self.assertEqual(len(found), 1, (gallery, pulled))
            hung[pulled] = hanging(gallery, pulled)
            self.assertTrue(is_exactly(hung[pulled], *found), (gallery, pulled))
        for one, other in itertools.product(hung, repeat=2):
            if within(one, other):
                self.assertTrue(within(hung[other], hung[one]), (gallery, one, other))
        return hung

    def test_told_galleries(self):
        for gallery in GALLERIES:
            self.check(gallery)

    def test_galleries_at_random(self):
        chance = random.Random(201)
        fallen = set()
        for pegs, pictures in ((1, 1), (2, 2), (3, 3), (4, 3), (4, 4), (5, 5)):
            for _ in range(25):
                hung = self.check(random_gallery(chance, pegs, pictures))
                fallen |= {pictures - len(hanging) for hanging in hung.values()}
        self.assertEqual(fallen, {0, 1, 2, 3, 4, 5})

    def test_told_ends(self):
        _, none_in_wall, on_themselves, two, ring, below = GALLERIES[:6]
        self.assertEqual(hanging(none_in_wall, ()), (1, 2))
        self.assertEqual([hanging(on_themselves, pulled) for pulled in ((), (4,))], [(1, 2, 3), (1,)])
        self.assertEqual([hanging(two, pulled) for pulled in ((), (3,), (3, 4))], [(1, 2)] * 3)
        self.assertEqual([hanging(ring, pulled) for pulled in ((), (4,))], [(1, 2, 3), ()])
        self.assertEqual([hanging(below, pulled) for pulled in ((), (1,))], [(1, 2, 3, 4), ()])


class Certificates(unittest.TestCase):
    def check(self, gallery, every=False):
        words = set()
        for pulled in subsets(in_wall(gallery)):
            for picture in pictures_of(gallery):
                right = right_certificates(gallery, pulled, picture)
                self.assertEqual(len({thing[0] for thing in right}), 1, (gallery, pulled, picture))
                told = judge_picture(gallery, pulled, picture)
                self.assertTrue(any(is_exactly(told, thing) for thing in right), told)
                self.assertEqual(told[0] == "stays", picture in end_of(gallery, pulled))
                for thing in right:
                    self.assertIs(picture_holds(gallery, pulled, picture, thing), True, thing)
                if every:
                    for thing in all_certificates(len(gallery[2])):
                        self.assertIs(picture_holds(gallery, pulled, picture, thing), thing in right, (gallery, thing))
                words.add(told[0])
        return words

    def test_told_galleries(self):
        for gallery in GALLERIES:
            self.check(gallery, True)

    def test_galleries_at_random(self):
        chance = random.Random(202)
        words = set()
        for pegs, pictures, every in ((2, 2, True), (3, 3, True), (4, 3, True), (4, 4, False), (5, 5, False)):
            for _ in range(8):
                words |= self.check(random_gallery(chance, pegs, pictures), every)
        self.assertEqual(words, {"falls", "stays"})

    def test_next_to_a_certificate(self):
        for gallery, pulled in ((GALLERIES[4], ()), (GALLERIES[4], (4,)), (GALLERIES[5], (1,)), (GALLERIES[0], (1, 2)), (GALLERIES[2], (4,))):
            for picture in pictures_of(gallery):
                right = right_certificates(gallery, pulled, picture)
                for thing in near(judge_picture(gallery, pulled, picture)):
                    due = any(is_exactly(thing, other) for other in right)
                    self.assertIs(picture_holds(gallery, pulled, picture, thing), due, thing)

    def test_orders_that_are_wrong(self):
        chain = (FREE, (0, 1, 2, 0), (((1, 1),), ((2, 1),), ((3, 1), (4, 1), (3, -1), (4, -1)), SWAP))
        for picture, order, due in ((3, (1, 2, 3), True), (3, (2, 1, 3), False), (3, (1, 3), False), (3, (3,), False), (2, (1, 2, 3), False),
                                    (3, (1, 4, 2, 3), True), (4, (4,), True), (4, (1, 4), True), (1, (1, 1), False), (1, (1,), True),
                                    (1, (), False), (1, [1], False), (1, (True,), False), (1, (4, 1), True), (3, (1, 2, 2, 3), False)):
            self.assertIs(picture_holds(chain, (1,), picture, ("falls", order)), due, (picture, order))
        for picture, pictures, due in ((1, (1,), True), (2, (1, 2), True), (2, (2,), False), (3, (1, 2, 3), True), (3, (2, 3), False),
                                       (1, (1, 2, 3, 4), True), (1, (2, 1), False), (1, (1, 1), False), (1, (2, 3), False),
                                       (4, (4,), False), (4, (1, 4), True), (1, (True,), False), (1, [1], False), (1, (), False)):
            self.assertIs(picture_holds(chain, (), picture, ("stays", pictures)), due, (picture, pictures))
