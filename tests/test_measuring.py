import unittest
from fractions import Fraction
from itertools import product

from dicesums.errors import NoDice
from dicesums.measuring import likeliest, mean, middle, spread
from tests.support import NO_DICE, parts

SIX = (1, 2, 3, 4, 5, 6)

SOME_DICE = [
    ((0,),),
    ((30,),),
    ((0, 0, 30),),
    ((1, 2, 2, 3, 3, 4), (1, 3, 4, 5, 6, 8)),
    (SIX,),
    (SIX, SIX),
    (SIX, SIX, SIX),
    ((1, 1), (2, 3)),
    ((0, 1), (0, 2), (0, 4), (0, 8)),
    ((0, 0, 7), (2, 2), (1, 5, 5, 9)),
    ((0, 30), (1, 29), (2, 28), (3, 3, 27)),
    ((0, 1, 1, 2, 3, 5, 8, 13), (21, 22), (4, 4, 5)),
    ((30,) * 8,) * 4,
    ((0, 1, 2, 3, 4, 5, 6, 30),) * 4,
]


def sums(dice):
    return sorted(sum(roll) for roll in product(*dice))


class MeanTest(unittest.TestCase):
    def test_mean(self):
        self.assertEqual(mean((SIX,)), (7, 2))
        self.assertEqual(mean((SIX, SIX)), (7, 1))
        self.assertEqual(mean(((0, 0, 1),)), (1, 3))
        self.assertEqual(mean(((0, 2, 4, 4), (1, 1))), (7, 2))

    def test_0(self):
        self.assertEqual(mean(((0,),)), (0, 1))
        self.assertEqual(mean(((0,) * 8,) * 4), (0, 1))

    def test_as_by_all_rolls(self):
        for dice in SOME_DICE:
            with self.subTest(dice):
                self.assertEqual(mean(dice), parts(Fraction(sum(sums(dice)), len(sums(dice)))))


class SpreadTest(unittest.TestCase):
    def test_spread(self):
        self.assertEqual(spread((SIX,)), (35, 12))
        self.assertEqual(spread((SIX, SIX)), (35, 6))
        self.assertEqual(spread(((1, 3),)), (1, 1))
        self.assertEqual(spread(((0, 0, 1),)), (2, 9))

    def test_0(self):
        self.assertEqual(spread(((0,),)), (0, 1))
        self.assertEqual(spread(((5, 5), (30,))), (0, 1))
        self.assertEqual(spread(((30,) * 8,) * 4), (0, 1))

    def test_as_by_all_rolls(self):
        for dice in SOME_DICE:
            with self.subTest(dice):
                told = sums(dice)
                center = Fraction(sum(told), len(told))
                squares = sum(((total - center) ** 2 for total in told), start=Fraction(0))
                self.assertEqual(spread(dice), parts(squares / len(told)))


class MiddleTest(unittest.TestCase):
    def test_exactly_half_come_to_it_or_to_less(self):
        self.assertEqual(middle((SIX,)), 3)
        self.assertEqual(middle(((1, 9),)), 1)
        self.assertEqual(middle(((0, 0, 5, 7),)), 0)
        self.assertEqual(middle(((0, 1), (0, 2))), 1)

    def test_more_than_half_come_to_it_or_to_less(self):
        self.assertEqual(middle((SIX, SIX)), 7)
        self.assertEqual(middle(((1, 2, 9),)), 2)
        self.assertEqual(middle(((0, 5, 5, 5),)), 5)

    def test_one_total(self):
        self.assertEqual(middle(((0,),)), 0)
        self.assertEqual(middle(((30,) * 8,) * 4), 120)

    def test_as_by_all_rolls(self):
        for dice in SOME_DICE:
            with self.subTest(dice):
                told = sums(dice)
                enough = [total for total in set(told) if 2 * sum(other <= total for other in told) >= len(told)]
                self.assertEqual(middle(dice), min(enough))


class LikeliestTest(unittest.TestCase):
    def test_one(self):
        self.assertEqual(likeliest((SIX, SIX)), [7])
        self.assertEqual(likeliest(((0,),)), [0])
        self.assertEqual(likeliest(((1, 1, 2),)), [1])

    def test_several_rising(self):
        self.assertEqual(likeliest((SIX,)), [1, 2, 3, 4, 5, 6])
        self.assertEqual(likeliest((SIX, SIX, SIX)), [10, 11])
        self.assertEqual(likeliest(((0, 10), (0, 3))), [0, 3, 10, 13])
        self.assertEqual(likeliest(((9, 20), (0, 15))), [9, 20, 24, 35])

    def test_as_by_all_rolls(self):
        for dice in SOME_DICE:
            with self.subTest(dice):
                told = sums(dice)
                most = max(told.count(total) for total in set(told))
                self.assertEqual(likeliest(dice), [total for total in sorted(set(told)) if told.count(total) == most])

    def test_told_list_is_a_new_one(self):
        likeliest((SIX,)).clear()
        self.assertEqual(likeliest((SIX,)), [1, 2, 3, 4, 5, 6])


class AllTest(unittest.TestCase):
    def test_kinds(self):
        for measure in (mean, spread):
            told = measure((SIX, SIX))
            self.assertIs(type(told), tuple)
            self.assertEqual([type(part) for part in told], [int, int])
        self.assertIs(type(middle((SIX,))), int)
        self.assertIs(type(likeliest((SIX,))), list)

    def test_equal_dice_have_equal_measures_whatever_was_asked_between(self):
        for measure in (mean, spread, middle, likeliest):
            told = measure((SIX, SIX))
            measure(((0,),))
            self.assertEqual(measure((SIX, SIX)), told)

    def test_no_dice(self):
        for dice in NO_DICE:
            with self.subTest(repr(dice)):
                for measure in (mean, spread, middle, likeliest):
                    self.assertRaises(NoDice, measure, dice)


if __name__ == "__main__":
    unittest.main()
