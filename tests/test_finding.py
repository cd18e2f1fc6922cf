import unittest
from itertools import combinations_with_replacement

from dicesums.errors import NoDie, NoNumber, NoTotals, TooMany
from dicesums.finding import missing, others, pairs, threes
from tests.support import NO_DIES, NO_TOTALS, NOT_NUMBERS, plain_found, plain_totals

SIX = (1, 2, 3, 4, 5, 6)
SMALL = (1, 2, 2, 3, 3, 4)
LARGE = (1, 3, 4, 5, 6, 8)
ONE = [(5, 1)]

# Six parts of two faces make forty threes of 4, 2 and 8 faces, as often as the least faces can be shared out.
PARTS = ((0, 1), (0, 2), (0, 3), (0, 4), (0, 9), (0, 9))

NO_SIZES = [None, True, 2, "22", object(), {}, (), (2,), (2, 2, 2, 2)]
NO_SIZE = [0, 9, -1, 10 ** 30] + NOT_NUMBERS
NO_LEAST = [-1, 31, 10 ** 30] + NOT_NUMBERS


class PairsTest(unittest.TestCase):
    def test_two_plain_dice(self):
        totals = plain_totals((SIX, SIX))
        self.assertEqual(pairs(totals, (6, 6), 1), [(SMALL, LARGE), (SIX, SIX), (LARGE, SMALL)])

    def test_the_first_has_so_many_faces_and_the_second_so_many(self):
        totals = plain_totals(((1, 2), (1, 2, 3)))
        self.assertEqual(pairs(totals, (2, 3), 1), [((1, 2), (1, 2, 3))])
        self.assertEqual(pairs(totals, (3, 2), 1), [((1, 2, 3), (1, 2))])
        self.assertEqual(pairs(totals, (6, 1), 1), [((1, 2, 2, 3, 3, 4), (1,))])
        self.assertEqual(pairs(totals, (1, 6), 1), [((1,), (1, 2, 2, 3, 3, 4))])

    def test_each_least_face(self):
        self.assertEqual(pairs([(4, 1)], (1, 1), 0), [((0,), (4,)), ((1,), (3,)), ((2,), (2,)), ((3,), (1,)),
                                                      ((4,), (0,))])
        self.assertEqual(pairs([(4, 1)], (1, 1), 1), [((1,), (3,)), ((2,), (2,)), ((3,), (1,))])
        self.assertEqual(pairs([(4, 1)], (1, 1), 2), [((2,), (2,))])
        self.assertEqual(pairs([(4, 1)], (1, 1), 3), [])
        self.assertEqual(pairs([(60, 1)], (1, 1), 30), [((30,), (30,))])
        self.assertEqual(pairs([(59, 1)], (1, 1), 30), [])

    def test_none(self):
        self.assertEqual(pairs([(2, 1), (3, 1)], (1, 1), 0), [])
        self.assertEqual(pairs([(0, 1), (1, 1), (2, 1), (4, 1)], (2, 2), 0), [])
        self.assertEqual(pairs([(0, 1), (1, 1), (3, 1)], (2, 2), 0), [])
        self.assertEqual(pairs([(0, 2), (1, 1), (3, 1)], (2, 2), 0), [])
        self.assertEqual(pairs([(0, 4096), (120, 4096)], (8, 8), 0), [])
        self.assertEqual(pairs([(0, 1)], (8, 8), 0), [])

    def test_a_face_greater_than_30(self):
        self.assertEqual(pairs([(40, 1), (120, 1)], (1, 2), 20), [((20,), (20, 100))])
        self.assertEqual(pairs([(1, 1), (120, 1)], (2, 1), 0), [((0, 119), (1,)), ((1, 120), (0,))])
        self.assertEqual(len(pairs([(120, 64)], (8, 8), 0)), 121)

    def test_more_than_400_are_all_told(self):
        totals = [(57 + more, 1) for more in range(64)]
        told = pairs(totals, (8, 8), 0)
        self.assertEqual(len(told), 20 * 58)
        self.assertEqual(told, sorted(set(told)))

    def test_as_by_trying_all(self):
        for sizes, greatest in [((1, 1), 5), ((1, 3), 4), ((2, 2), 4), ((3, 2), 4), ((2, 4), 3), ((3, 3), 3)]:
            for first in combinations_with_replacement(range(greatest), sizes[0]):
                second = tuple(range(sizes[1] - 1)) + (greatest,)
                totals = plain_totals((first, second))
                for least in (0, 1):
                    with self.subTest((totals, sizes, least)):
                        self.assertEqual(pairs(totals, sizes, least), plain_found(totals, sizes, least))

    def test_told_list_is_a_new_one_and_totals_are_as_they_were(self):
        totals = plain_totals((SIX, SIX))
        kept = list(totals)
        told = pairs(totals, (6, 6), 1)
        copy = list(told)
        told.clear()
        self.assertEqual(pairs(totals, (6, 6), 1), copy)
        self.assertEqual(totals, kept)

    def test_kinds(self):
        told = pairs(plain_totals((SIX, SIX)), (6, 6), 0)
        self.assertIs(type(told), list)
        for pair in told:
            self.assertIs(type(pair), tuple)
            self.assertEqual([type(die) for die in pair], [tuple, tuple])


class ThreesTest(unittest.TestCase):
    def test_in_every_order(self):
        totals = plain_totals(((1, 2), (1, 3), (1, 5)))
        dice = [(1, 2), (1, 3), (1, 5)]
        wanted = [(one, two, three) for one in dice for two in dice for three in dice
                  if len({one, two, three}) == 3]
        self.assertEqual(threes(totals, (2, 2, 2), 1), wanted)

    def test_sizes_go_by_place(self):
        totals = plain_totals(((1,), (1, 2), (1, 2, 3)))
        self.assertEqual(threes(totals, (1, 2, 3), 1), [((1,), (1, 2), (1, 2, 3))])
        self.assertEqual(threes(totals, (3, 1, 2), 1), [((1, 2, 3), (1,), (1, 2))])
        self.assertEqual(threes(totals, (1, 6, 1), 1), [((1,), (1, 2, 2, 3, 3, 4), (1,))])

    def test_each_least_face(self):
        self.assertEqual(threes([(4, 1)], (1, 1, 1), 1), [((1,), (1,), (2,)), ((1,), (2,), (1,)),
                                                          ((2,), (1,), (1,))])
        self.assertEqual(len(threes([(4, 1)], (1, 1, 1), 0)), 15)
        self.assertEqual(threes([(4, 1)], (1, 1, 1), 2), [])
        self.assertEqual(threes([(90, 1)], (1, 1, 1), 30), [((30,), (30,), (30,))])
        self.assertEqual(threes([(89, 1)], (1, 1, 1), 30), [])

    def test_none(self):
        self.assertEqual(threes([(3, 1), (4, 1)], (1, 1, 1), 0), [])
        self.assertEqual(threes([(0, 1), (1, 3), (2, 3), (4, 1)], (2, 2, 2), 0), [])
        self.assertEqual(threes([(0, 1), (1, 1), (2, 1)], (2, 2, 2), 0), [])

    def test_a_face_greater_than_30(self):
        self.assertEqual(threes([(0, 1), (120, 1)], (1, 1, 2), 0), [((0,), (0,), (0, 120))])

    def test_as_by_trying_all(self):
        for dice in [((0, 1), (0, 1), (0, 2)), ((1, 1), (0, 2), (1, 3)), ((0,), (1, 2), (0, 1, 1)),
                     ((0, 1, 2), (0,), (0, 3)), ((1, 2), (1, 2), (1, 2)), ((0, 0), (0, 0), (1, 1))]:
            totals = plain_totals(dice)
            sizes = tuple(len(die) for die in dice)
            for least in (0, 1):
                with self.subTest((dice, least)):
                    self.assertEqual(threes(totals, sizes, least), plain_found(totals, sizes, least))

    def test_told_list_is_a_new_one_and_totals_are_as_they_were(self):
        totals = [(4, 1)]
        threes(totals, (1, 1, 1), 1).clear()
        self.assertEqual(len(threes(totals, (1, 1, 1), 1)), 3)
        self.assertEqual(totals, [(4, 1)])

    def test_as_many_faces_as_may_be(self):
        for sizes in [(4, 4, 4), (4, 2, 8), (4, 8, 2), (4, 3, 5), (4, 1, 8), (1, 4, 4)]:
            with self.subTest(sizes):
                dice = tuple((0,) * size for size in sizes)
                self.assertEqual(threes(plain_totals(dice), sizes, 0), [dice])
                self.assertEqual(threes([(1, 4096)], sizes, 0), [])

    def test_too_many_faces(self):
        for sizes in [(5, 1, 1), (8, 1, 1), (4, 3, 6), (1, 3, 6), (1, 6, 3), (1, 8, 3), (1, 8, 8), (8, 8, 8)]:
            with self.subTest(sizes):
                dice = tuple((0,) * size for size in sizes)
                self.assertRaises(TooMany, threes, plain_totals(dice), sizes, 0)
                self.assertRaises(TooMany, threes, ONE, sizes, 0)

    def test_more_than_400_threes(self):
        self.assertEqual(len(threes([(26, 1)], (1, 1, 1), 0)), 378)
        self.assertRaises(TooMany, threes, [(27, 1)], (1, 1, 1), 0)
        self.assertEqual(len(threes([(27, 1)], (1, 1, 1), 1)), 325)
        self.assertRaises(TooMany, threes, [(120, 64)], (4, 4, 4), 0)

    def test_just_400_threes(self):
        totals = plain_totals(PARTS + ((3,),))
        told = threes(totals, (4, 2, 8), 0)
        self.assertEqual(len(told), 400)
        self.assertEqual(told, sorted(set(told)))
        for dice in told:
            self.assertEqual(plain_totals(dice), totals)
        self.assertRaises(TooMany, threes, plain_totals(PARTS + ((4,),)), (4, 2, 8), 0)

    def test_405_threes(self):
        parts = ((0, 1), (0, 1), (0, 2), (0, 4), (0, 4), (0, 9))
        self.assertEqual(len(threes(plain_totals(parts + ((3,),)), (4, 2, 8), 0)), 27 * 10)
        self.assertRaises(TooMany, threes, plain_totals(parts + ((4,),)), (4, 2, 8), 0)


class RefusedTest(unittest.TestCase):
    def test_no_totals(self):
        for totals in NO_TOTALS:
            with self.subTest(repr(totals)):
                self.assertRaises(NoTotals, pairs, totals, (1, 1), 0)
                self.assertRaises(NoTotals, threes, totals, (1, 1, 1), 0)
                self.assertRaises(NoTotals, missing, totals, (1,))

    def test_edges_that_are_totals(self):
        for totals in [[(0, 1)], [(120, 1)], [(0, 1), (120, 4096)], [(0, 4096)]]:
            with self.subTest(totals):
                self.assertEqual(pairs(totals, (1, 2), 30), [])
                self.assertEqual(threes(totals, (1, 1, 3), 30), [])
                self.assertIsNone(missing(totals, (0, 1)))
        self.assertEqual(missing([(0, 4096)], (0,)), (0,) * 4096)
        self.assertEqual(missing([(120, 1)], (30,)), (90,))

    def test_sizes(self):
        for sizes in NO_SIZES + [[1, 1], (1, 1, 1)]:
            with self.subTest(repr(sizes)):
                self.assertRaises(NoNumber, pairs, ONE, sizes, 0)
        for sizes in NO_SIZES + [[1, 1, 1], (1, 1)]:
            with self.subTest(repr(sizes)):
                self.assertRaises(NoNumber, threes, ONE, sizes, 0)

    def test_each_size(self):
        for size in NO_SIZE:
            with self.subTest(repr(size)):
                for sizes in [(size, 1), (1, size)]:
                    self.assertRaises(NoNumber, pairs, ONE, sizes, 0)
                for sizes in [(size, 1, 1), (1, size, 1), (1, 1, size)]:
                    self.assertRaises(NoNumber, threes, ONE, sizes, 0)
        self.assertEqual(pairs(ONE, (8, 1), 0), [])
        self.assertEqual(pairs(ONE, (1, 8), 0), [])
        self.assertEqual(threes(ONE, (1, 8, 1), 0), [])
        self.assertEqual(threes(ONE, (1, 1, 8), 0), [])

    def test_least(self):
        for least in NO_LEAST:
            with self.subTest(repr(least)):
                self.assertRaises(NoNumber, pairs, ONE, (1, 1), least)
                self.assertRaises(NoNumber, threes, ONE, (1, 1, 1), least)
                self.assertRaises(NoNumber, others, SIX, SIX, least)
        self.assertEqual(len(pairs(ONE, (1, 1), 0)), 6)
        self.assertEqual(pairs(ONE, (1, 1), 30), [])
        self.assertEqual(others((30,), (30,), 30), [])
        self.assertEqual(len(others((1,), (1,), 0)), 2)

    def test_the_one_that_is_named_first(self):
        self.assertRaises(NoTotals, pairs, [], (0, 0), -1)
        self.assertRaises(NoTotals, pairs, None, None, None)
        self.assertRaises(NoTotals, threes, [], (9, 9, 9), -1)
        self.assertRaises(NoTotals, threes, [], (8, 8, 8), 0)
        self.assertRaises(NoNumber, threes, ONE, (5, 9, 1), 0)
        self.assertRaises(NoNumber, threes, ONE, (8, 8, 8), 31)
        self.assertRaises(NoNumber, threes, [(120, 1)], (1, 1, 1), -1)
        self.assertRaises(NoTotals, missing, [], ())
        self.assertRaises(NoDie, others, (), SIX, -1)
        self.assertRaises(NoDie, others, SIX, (), -1)


class MissingTest(unittest.TestCase):
    def test_the_missing_die(self):
        self.assertEqual(missing(plain_totals((SIX, SIX)), SIX), SIX)
        self.assertEqual(missing(plain_totals((SIX, SIX)), SMALL), LARGE)
        self.assertEqual(missing(plain_totals((SIX, SIX)), LARGE), SMALL)
        self.assertEqual(missing([(5, 1)], (5,)), (0,))
        self.assertEqual(missing([(5, 2)], (2, 2)), (3,))
        self.assertEqual(missing([(5, 6)], (2, 2)), (3, 3, 3))

    def test_faces_that_are_there_twice(self):
        for die in [(0, 0, 1), (3, 3), (1, 2, 2, 2), (7,)]:
            for other in [(0, 0), (1, 4, 4), (0, 5, 5, 5, 9), (2,)]:
                with self.subTest((die, other)):
                    self.assertEqual(missing(plain_totals((die, other)), die), other)

    def test_more_than_8_faces(self):
        other = (0, 1, 1, 2, 3, 5, 8, 13, 21, 21, 22)
        self.assertEqual(missing(plain_totals(((1, 4, 6), other)), (1, 4, 6)), other)
        self.assertEqual(missing([(total, 2) for total in range(121)], (0,)),
                         tuple(face // 2 for face in range(242)))

    def test_faces_greater_than_30(self):
        other = (31, 60, 90)
        self.assertEqual(missing(plain_totals(((0, 30), other)), (0, 30)), other)
        self.assertEqual(missing([(120, 1)], (0,)), (120,))

    def test_none(self):
        self.assertIsNone(missing([(1, 1), (2, 1)], (2,)))
        self.assertIsNone(missing([(0, 1)], (1,)))
        self.assertIsNone(missing([(5, 3)], (2, 2)))
        self.assertIsNone(missing([(5, 1)], (2, 2)))
        self.assertIsNone(missing([(5, 1), (6, 1), (7, 1)], (1, 2)))
        self.assertIsNone(missing([(5, 1), (7, 1)], (1, 2)))
        self.assertIsNone(missing([(5, 2), (6, 1)], (1, 2)))
        self.assertIsNone(missing([(5, 3), (6, 2)], (1, 1, 2)))
        self.assertIsNone(missing(plain_totals((SIX, SIX)), (1, 2, 3, 4, 5, 7)))

    def test_no_die(self):
        for die in NO_DIES:
            with self.subTest(repr(die)):
                self.assertRaises(NoDie, missing, ONE, die)

    def test_totals_are_as_they_were(self):
        totals = plain_totals((SIX, SIX))
        kept = list(totals)
        missing(totals, SIX)
        self.assertEqual(totals, kept)

    def test_kind(self):
        self.assertIs(type(missing(ONE, (1,))), tuple)


class OthersTest(unittest.TestCase):
    def test_two_plain_dice(self):
        self.assertEqual(others(SIX, SIX, 1), [(SMALL, LARGE), (LARGE, SMALL)])

    def test_none(self):
        self.assertEqual(others((1, 2), (1, 2), 1), [])
        self.assertEqual(others((1, 2), (1, 3), 1), [])
        self.assertEqual(others((1, 2), (1, 3), 30), [])
        self.assertEqual(others((1,), (1,), 1), [])

    def test_left_out_in_this_order_and_the_other_way_about(self):
        self.assertEqual(others(SMALL, LARGE, 1), [(SIX, SIX)])
        self.assertEqual(others(LARGE, SMALL, 1), [(SIX, SIX)])
        self.assertEqual(others((0,), (2,), 0), [((1,), (1,))])
        self.assertEqual(others((2,), (0,), 0), [((1,), (1,))])

    def test_least_face(self):
        self.assertEqual(others((1,), (1,), 0), [((0,), (2,)), ((2,), (0,))])
        self.assertEqual(len(others(SIX, SIX, 0)), 8)
        self.assertEqual(others((0, 1), (4, 6), 2), [((2, 3), (2, 4)), ((2, 4), (2, 3))])

    def test_the_first_has_as_many_faces_as_the_first_one(self):
        self.assertEqual(others((0, 1), (1, 2, 3), 0), [((1, 2), (0, 1, 2))])
        self.assertEqual(others((1, 2, 3), (0, 1), 0), [((0, 1, 2), (1, 2))])

    def test_as_by_trying_all(self):
        for one, other in [((0, 1), (0, 2)), ((1, 2, 3), (0, 3)), ((0, 1, 2), (1, 2, 3)), ((2, 2), (1, 3))]:
            totals = plain_totals((one, other))
            for least in (0, 1):
                with self.subTest((one, other, least)):
                    wanted = plain_found(totals, (len(one), len(other)), least)
                    wanted = [pair for pair in wanted if pair not in ((one, other), (other, one))]
                    self.assertEqual(others(one, other, least), wanted)

    def test_more_than_400(self):
        one = tuple(23 + face for face in range(8))
        other = tuple(sorted(16 + a + b + c for a in (0, 3) for b in (0, 5) for c in (0, 6)))
        told = others(one, other, 0)
        self.assertGreater(len(told), 400)
        self.assertNotIn((one, other), told)

    def test_told_list_is_a_new_one(self):
        others(SIX, SIX, 1).clear()
        self.assertEqual(len(others(SIX, SIX, 1)), 2)

    def test_no_die(self):
        for die in NO_DIES:
            with self.subTest(repr(die)):
                self.assertRaises(NoDie, others, die, SIX, 1)
                self.assertRaises(NoDie, others, SIX, die, 1)
                self.assertRaises(NoDie, others, die, die, 1)


if __name__ == "__main__":
    unittest.main()
