import unittest
from itertools import product

from dicesums.dice import alike, parted, rolls, totals, ways
from dicesums.errors import NoDice, NoNumber
from tests.support import NO_DICE, NOT_NUMBERS, plain_totals

SIX = (1, 2, 3, 4, 5, 6)
SMALL = (1, 2, 2, 3, 3, 4)
LARGE = (1, 3, 4, 5, 6, 8)

SOME_DICE = [
    ((0,),),
    ((30,),),
    ((5, 5),),
    (SIX,),
    (SIX, SIX),
    (SMALL, LARGE),
    ((1, 1), (2, 3)),
    ((0, 0, 7), (2, 2), (1, 5, 5, 9)),
    ((0, 30), (1, 29), (2, 28), (3, 3, 27)),
    ((30,) * 8,) * 4,
    ((0, 1, 2, 3, 4, 5, 6, 7),) * 4,
]


class TotalsTest(unittest.TestCase):
    def test_two_plain_dice(self):
        self.assertEqual(totals((SIX, SIX)), [(2, 1), (3, 2), (4, 3), (5, 4), (6, 5), (7, 6), (8, 5), (9, 4),
                                              (10, 3), (11, 2), (12, 1)])

    def test_one_to_four_dice(self):
        self.assertEqual(totals(((4, 9),)), [(4, 1), (9, 1)])
        self.assertEqual(totals(((9, 20), (0, 1))), [(9, 1), (10, 1), (20, 1), (21, 1)])
        self.assertEqual(totals(((1, 2), (1, 2), (1, 2))), [(3, 1), (4, 3), (5, 3), (6, 1)])
        self.assertEqual(totals(((0, 1),) * 4), [(0, 1), (1, 4), (2, 6), (3, 4), (4, 1)])

    def test_a_face_that_is_there_twice_counts_twice(self):
        self.assertEqual(totals(((3, 3),)), [(3, 2)])
        self.assertEqual(totals(((1, 1), (2, 2, 5))), [(3, 4), (6, 2)])

    def test_edges(self):
        self.assertEqual(totals(((0,),)), [(0, 1)])
        self.assertEqual(totals(((30,) * 8,) * 4), [(120, 4096)])

    def test_as_by_all_rolls(self):
        for dice in SOME_DICE:
            with self.subTest(dice):
                self.assertEqual(totals(dice), plain_totals(dice))

    def test_told_list_is_a_new_one(self):
        told = totals((SIX,))
        told.clear()
        self.assertEqual(totals((SIX,)), [(face, 1) for face in SIX])

    def test_kinds(self):
        told = totals((SIX, (1, 1)))
        self.assertIs(type(told), list)
        for row in told:
            self.assertIs(type(row), tuple)


class WaysTest(unittest.TestCase):
    def test_ways(self):
        self.assertEqual(ways((SIX, SIX), 7), 6)
        self.assertEqual(ways(((3, 3), (0, 1, 1)), 4), 4)
        self.assertEqual(ways((SIX,), 6), 1)
        self.assertEqual(ways(((1, 2), (1, 2), (1, 2)), 5), 3)

    def test_no_roll_comes_to_it(self):
        self.assertEqual(ways((SIX, SIX), 1), 0)
        self.assertEqual(ways((SIX, SIX), 13), 0)
        self.assertEqual(ways(((1, 5),), 3), 0)

    def test_edges_of_the_total(self):
        self.assertEqual(ways(((0,),), 0), 1)
        self.assertEqual(ways(((0,),), 120), 0)
        self.assertEqual(ways(((30,) * 8,) * 4, 120), 4096)
        for total in [-1, 121, 10 ** 30, -(10 ** 30)] + NOT_NUMBERS:
            with self.subTest(repr(total)):
                self.assertRaises(NoNumber, ways, (SIX, SIX), total)

    def test_no_dice_comes_first(self):
        for total in [-1, 121] + NOT_NUMBERS:
            self.assertRaises(NoDice, ways, ((2, 1),), total)
            self.assertRaises(NoDice, ways, None, total)


class RollsTest(unittest.TestCase):
    def test_rolls(self):
        self.assertEqual(rolls(((4, 9),)), [(4,), (9,)])
        self.assertEqual(rolls(((5, 6), (0, 1))), [(5, 0), (5, 1), (6, 0), (6, 1)])
        self.assertEqual(rolls(((1,), (2,), (3, 4), (0,))), [(1, 2, 3, 0), (1, 2, 4, 0)])

    def test_a_face_that_is_there_twice_counts_twice(self):
        self.assertEqual(rolls(((3, 3),)), [(3,), (3,)])
        self.assertEqual(rolls(((1, 1), (2, 3))), [(1, 2), (1, 2), (1, 3), (1, 3)])

    def test_as_all_of_them_rising(self):
        for dice in SOME_DICE:
            with self.subTest(dice):
                self.assertEqual(rolls(dice), sorted(product(*dice)))

    def test_told_list_is_a_new_one(self):
        told = rolls(((1, 2),))
        told.append((3,))
        self.assertEqual(rolls(((1, 2),)), [(1,), (2,)])


class RefusedTest(unittest.TestCase):
    def test_no_dice(self):
        good = ((1, 2),)
        for dice in NO_DICE:
            with self.subTest(repr(dice)):
                self.assertRaises(NoDice, totals, dice)
                self.assertRaises(NoDice, ways, dice, 3)
                self.assertRaises(NoDice, rolls, dice)
                self.assertRaises(NoDice, alike, dice, good)
                self.assertRaises(NoDice, alike, good, dice)
                self.assertRaises(NoDice, alike, dice, dice)
                self.assertRaises(NoDice, parted, dice, good)
                self.assertRaises(NoDice, parted, good, dice)
                self.assertRaises(NoDice, parted, dice, dice)

    def test_edges_that_are_dice(self):
        for dice in [((0,),), ((30,),), ((1,) * 8,), ((0, 30),), ((2, 2),), ((1,),) * 4]:
            with self.subTest(dice):
                self.assertEqual(totals(dice), plain_totals(dice))
                self.assertEqual(rolls(dice), sorted(product(*dice)))
                self.assertTrue(alike(dice, dice))
                self.assertIsNone(parted(dice, dice))


class AlikeTest(unittest.TestCase):
    def same(self, one, other):
        self.assertIs(alike(one, other), True)
        self.assertIs(alike(other, one), True)
        self.assertIsNone(parted(one, other))
        self.assertIsNone(parted(other, one))

    def unlike(self, one, other, total):
        self.assertIs(alike(one, other), False)
        self.assertIs(alike(other, one), False)
        self.assertEqual(parted(one, other), total)
        self.assertEqual(parted(other, one), total)

    def test_another_order(self):
        self.same(((1, 2), (3, 5), (0,)), ((3, 5), (0,), (1, 2)))

    def test_unlike_faces_and_the_same_totals(self):
        self.same((SIX, SIX), (SMALL, LARGE))
        self.same(((0, 2), (1, 4)), ((1, 3), (0, 3)))

    def test_unlike_many_dice(self):
        self.same(((0, 1, 2, 3),), ((0, 1), (0, 2)))
        self.same(((0, 0), (5,)), ((5, 5),))

    def test_a_total_that_just_one_has(self):
        self.unlike(((1, 2),), ((1, 3),), 2)
        self.unlike((SIX,), ((1, 2, 3, 4, 5, 7),), 6)
        self.unlike(((0,),), ((1,),), 0)
        self.unlike(((4, 9),), ((4,),), 9)

    def test_a_total_in_unlike_many_ways(self):
        self.unlike(((1, 1, 2),), ((1, 2, 2),), 1)
        self.unlike(((1, 2, 2, 3),), ((1, 2, 3),), 2)
        self.unlike(((7, 7),), ((7,),), 7)

    def test_the_least_of_several(self):
        self.unlike(((1, 2, 4, 9),), ((1, 3, 4, 8),), 2)
        self.unlike(((1, 5, 5, 9),), ((1, 5, 8, 9),), 5)
        self.unlike((SIX, SIX), ((1, 2, 3, 4, 5, 5), SIX), 6)


if __name__ == "__main__":
    unittest.main()
