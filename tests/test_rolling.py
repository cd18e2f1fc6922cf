import unittest
from fractions import Fraction
from itertools import combinations, product

from dicesums.beating import chance
from dicesums.errors import NoDice, NoNumber, NoRoll, TooMany
from dicesums.rolling import again, best_again
from tests.support import NO_DICE, NOT_NUMBERS, parts

SIX = (1, 2, 3, 4, 5, 6)

SOME_DICE = [
    ((0,),),
    ((5, 5, 30),),
    (SIX,),
    (SIX, SIX),
    ((1, 1), (2, 3)),
    ((0, 7), (7, 7, 8)),
    ((1, 2, 6), (1, 2, 6), (2, 3)),
    ((0, 0, 7), (2, 2), (1, 5, 5, 9)),
    ((30,), (0,), (3, 9)),
    ((0, 1), (0, 1), (0, 1), (0, 1)),
    ((0, 30), (1, 29), (2, 28), (3, 3, 27)),
]

NO_TOTALS_ASKED = [-1, 1000, 10 ** 30, -(10 ** 30)] + NOT_NUMBERS


def plain_chance(dice, roll, total, places):
    """The chance of the total, or more, if the dice at these places are rolled again."""
    sums = [sum(again_rolled) for again_rolled in
            product(*[die if place in places else (roll[place],) for place, die in enumerate(dice)])]
    return Fraction(sum(reached >= total for reached in sums), len(sums))


def plain_best(dice, roll, total):
    found = []
    for many in range(len(dice) + 1):
        for places in combinations(range(len(dice)), many):
            found.append((-plain_chance(dice, roll, total, places), many, places))
    best = min(found)
    return (best[2], parts(-best[0]))


def plain_again(dice, total):
    chances = [Fraction(*plain_best(dice, roll, total)[1]) for roll in product(*dice)]
    return parts(sum(chances, start=Fraction(0)) / len(chances))


class BestAgainTest(unittest.TestCase):
    def test_one_die(self):
        self.assertEqual(best_again((SIX,), (3,), 4), ((0,), (1, 2)))
        self.assertEqual(best_again((SIX,), (4,), 4), ((), (1, 1)))
        self.assertEqual(best_again((SIX,), (1,), 2), ((0,), (5, 6)))

    def test_some_of_several(self):
        self.assertEqual(best_again((SIX, SIX), (1, 6), 9), ((0,), (2, 3)))
        self.assertEqual(best_again((SIX, SIX), (6, 1), 9), ((1,), (2, 3)))
        self.assertEqual(best_again((SIX, SIX, SIX), (1, 5, 1), 12), ((0, 2), (7, 12)))

    def test_all(self):
        self.assertEqual(best_again((SIX, SIX), (1, 1), 8), ((0, 1), (5, 12)))
        self.assertEqual(best_again(((0, 9),) * 4, (0, 0, 0, 0), 36), ((0, 1, 2, 3), (1, 16)))

    def test_a_roll_that_is_enough(self):
        for total in (0, 6, 7):
            self.assertEqual(best_again((SIX, SIX), (1, 6), total), ((), (1, 1)))
        self.assertEqual(best_again(((0,),), (0,), 0), ((), (1, 1)))
        self.assertEqual(best_again(((30,) * 8,) * 4, (30,) * 4, 120), ((), (1, 1)))
        # The first die may be rolled again without harm, but then it is one place more.
        self.assertEqual(best_again(((5, 5), (6,)), (5, 6), 11), ((), (1, 1)))

    def test_a_total_that_can_never_be_had(self):
        self.assertEqual(best_again((SIX, SIX), (1, 6), 13), ((), (0, 1)))
        self.assertEqual(best_again((SIX, SIX), (1, 6), 999), ((), (0, 1)))
        self.assertEqual(best_again(((0,),), (0,), 1), ((), (0, 1)))
        self.assertEqual(best_again(((30,) * 8,) * 4, (30,) * 4, 121), ((), (0, 1)))

    def test_of_like_chances_the_fewest_places(self):
        # With the second die alone, or with both, it is as likely.
        self.assertEqual(best_again(((1, 1), (1, 2)), (1, 1), 3), ((1,), (1, 2)))
        self.assertEqual(best_again(((4,), (5,), (0, 9)), (4, 5, 0), 10), ((2,), (1, 2)))
        # The places 1 and 2 would be the lesser tuple, and as likely, but they are more.
        self.assertEqual(best_again(((1, 3), (0, 0), (1, 3)), (3, 0, 1), 6), ((2,), (1, 2)))
        # With one of the dice it is as likely as with both.
        self.assertEqual(best_again((SIX, SIX), (4, 4), 10), ((0,), (1, 6)))

    def test_one_place_ahead_of_two_others(self):
        # By the last die alone it is as likely as by the two ahead of it.
        dice = ((0, 0, 4, 6), (0, 4, 6, 6), (0, 0, 0, 0, 0, 0, 10, 14))
        self.assertEqual(plain_chance(dice, (4, 4, 10), 22, (0, 1)), Fraction(1, 8))
        self.assertEqual(best_again(dice, (4, 4, 10), 22), ((2,), (1, 8)))
        self.assertEqual(best_again(((9,),) + dice, (9, 4, 4, 10), 31), ((3,), (1, 8)))

    def test_of_as_many_places_the_least_rising_tuple(self):
        self.assertEqual(best_again((SIX, SIX), (5, 5), 11), ((0,), (1, 6)))
        self.assertEqual(best_again((SIX, SIX, SIX), (6, 5, 5), 17), ((1,), (1, 6)))
        self.assertEqual(best_again((SIX, SIX, SIX), (5, 5, 5), 17), ((0, 1), (1, 36)))
        self.assertEqual(best_again(((9,), SIX, SIX, SIX), (9, 5, 5, 5), 26), ((1, 2), (1, 36)))
        # By the second and the third die it is as likely as by the first and the last one.
        dice = ((0, 10, 11, 11), (0, 0, 10, 12), (0, 0, 10, 12), (0, 0, 0, 0, 0, 0, 10, 13))
        self.assertEqual(plain_chance(dice, (10, 10, 10, 10), 44, (1, 2)), Fraction(1, 16))
        self.assertEqual(best_again(dice, (10, 10, 10, 10), 44), ((0, 3), (1, 16)))

    def test_a_face_that_is_there_twice_counts_twice(self):
        self.assertEqual(best_again(((1, 6, 6),), (1,), 6), ((0,), (2, 3)))
        self.assertEqual(best_again(((1, 1, 6),), (1,), 6), ((0,), (1, 3)))

    def test_faces_go_by_the_order_of_the_dice(self):
        self.assertEqual(best_again(((1, 9), (2, 5)), (1, 5), 10), ((0,), (1, 2)))
        self.assertEqual(best_again(((2, 5), (1, 9)), (5, 1), 10), ((1,), (1, 2)))

    def test_as_by_all_sets_of_places_and_all_their_rolls(self):
        for dice in SOME_DICE:
            for roll in sorted(set(product(*dice))):
                for total in range(0, sum(die[-1] for die in dice) + 2, 1 + len(dice) // 3):
                    with self.subTest((dice, roll, total)):
                        self.assertEqual(best_again(dice, roll, total), plain_best(dice, roll, total))

    def test_many_rolls(self):
        dice = ((0, 1, 2, 3, 4, 5, 6, 30),) * 4
        self.assertEqual(best_again(dice, (0, 6, 30, 1), 50), plain_best(dice, (0, 6, 30, 1), 50))
        self.assertEqual(best_again(dice, (0, 0, 0, 0), 120), ((0, 1, 2, 3), (1, 4096)))

    def test_kinds(self):
        told = best_again((SIX, SIX), (1, 6), 9)
        self.assertIs(type(told), tuple)
        self.assertEqual([type(part) for part in told], [tuple, tuple])
        self.assertEqual([type(part) for part in told[0] + told[1]], [int, int, int])

    def test_no_dice(self):
        for dice in NO_DICE:
            with self.subTest(repr(dice)):
                self.assertRaises(NoDice, best_again, dice, (1,), 3)
                self.assertRaises(NoDice, best_again, dice, (1, 1), 3)

    def test_no_roll(self):
        for roll in [[1, 6], (1,), (), (1, 6, 1), (0, 6), (7, 6), (1, 7), (1, -1), (1, 31), (6, 10 ** 30), ((1, 6),),
                     ("1", 6), "16", ("1", "6"), {1: 6}, {1, 6}, range(1, 3), 7, (1, [6]), ((1,), 6)] + NOT_NUMBERS:
            with self.subTest(repr(roll)):
                self.assertRaises(NoRoll, best_again, (SIX, SIX), roll, 9)
        for face in NOT_NUMBERS:
            with self.subTest(repr(face)):
                self.assertRaises(NoRoll, best_again, ((0, 1),), (face,), 1)
                self.assertRaises(NoRoll, best_again, ((0, 1), (0, 1)), (face, 1), 1)
                self.assertRaises(NoRoll, best_again, ((0, 1), (0, 1)), (0, face), 1)

    def test_no_roll_of_a_face_of_another_die(self):
        dice = ((1, 9), (2, 5))
        self.assertEqual(best_again(dice, (1, 5), 6), ((), (1, 1)))
        for roll in [(5, 1), (2, 9), (1, 9), (2, 5), (9, 3), (3, 2)]:
            with self.subTest(roll):
                self.assertRaises(NoRoll, best_again, dice, roll, 6)

    def test_no_number(self):
        for total in NO_TOTALS_ASKED:
            with self.subTest(repr(total)):
                self.assertRaises(NoNumber, best_again, (SIX, SIX), (1, 6), total)

    def test_the_one_that_is_named_first(self):
        for roll in [(1,), [1], None, True, (True,)]:
            for total in NO_TOTALS_ASKED + [3]:
                self.assertRaises(NoDice, best_again, ((2, 1),), roll, total)
                self.assertRaises(NoDice, best_again, None, roll, total)
        for roll in [(), [1, 6], None, True, (True, 6), (1, 7)]:
            for total in NO_TOTALS_ASKED:
                self.assertRaises(NoRoll, best_again, (SIX, SIX), roll, total)

    def test_what_is_handed_in_is_as_it_was(self):
        roll = [1, [6]]
        self.assertRaises(NoRoll, best_again, (SIX, SIX), roll, 9)
        self.assertRaises(NoRoll, best_again, (SIX, SIX), (1, roll), 9)
        self.assertEqual(roll, [1, [6]])


class AgainTest(unittest.TestCase):
    def test_one_die(self):
        self.assertEqual(again((SIX,), 4), (3, 4))
        self.assertEqual(again((SIX,), 6), (11, 36))
        self.assertEqual(again(((0, 1),), 1), (3, 4))

    def test_two_dice(self):
        self.assertEqual(again(((0, 1), (0, 1)), 2), (9, 16))
        self.assertEqual(again(((0, 1), (5,)), 6), (3, 4))

    def test_a_face_that_is_there_twice_counts_twice(self):
        self.assertEqual(again(((1, 6, 6),), 6), (8, 9))

    def test_sure(self):
        for dice in SOME_DICE:
            self.assertEqual(again(dice, 0), (1, 1))
            self.assertEqual(again(dice, sum(die[0] for die in dice)), (1, 1))

    def test_never(self):
        for dice in SOME_DICE:
            self.assertEqual(again(dice, sum(die[-1] for die in dice) + 1), (0, 1))
            self.assertEqual(again(dice, 999), (0, 1))

    def test_never_less_than_by_one_roll(self):
        for total in range(2, 14):
            self.assertGreaterEqual(Fraction(*again((SIX, SIX), total)), Fraction(*chance((SIX, SIX), total)))

    def test_as_by_all_first_rolls(self):
        for dice in SOME_DICE:
            for total in range(0, sum(die[-1] for die in dice) + 2, 1 + len(dice) // 3):
                with self.subTest((dice, total)):
                    self.assertEqual(again(dice, total), plain_again(dice, total))

    def test_kinds(self):
        told = again((SIX,), 4)
        self.assertIs(type(told), tuple)
        self.assertEqual([type(part) for part in told], [int, int])

    def test_300_rolls_are_told(self):
        dice = ((1, 2, 3, 4, 5, 6), (0, 1, 2, 3, 9), (1, 2, 5, 5, 7), (0, 8))
        self.assertEqual(again(dice, 20), plain_again(dice, 20))
        self.assertEqual(again(((0,) * 6, (0,) * 5, (0,) * 5, (0,) * 2), 0), (1, 1))

    def test_more_are_too_many(self):
        # No dice have 301 to 314 rolls; the first ones here have 315.
        for sizes in [(3, 3, 5, 7), (8, 8, 5), (6, 6, 3, 3), (7, 7, 7), (1, 7, 7, 7), (8, 6, 7), (8, 8, 8, 8)]:
            dice = tuple((3,) * size for size in sizes)
            for total in (0, 12, 999):
                with self.subTest((sizes, total)):
                    self.assertRaises(TooMany, again, dice, total)

    def test_no_dice(self):
        for dice in NO_DICE:
            with self.subTest(repr(dice)):
                self.assertRaises(NoDice, again, dice, 3)

    def test_no_number(self):
        for total in NO_TOTALS_ASKED:
            with self.subTest(repr(total)):
                self.assertRaises(NoNumber, again, (SIX, SIX), total)

    def test_the_one_that_is_named_first(self):
        many = ((1,) * 8,) * 4
        for total in NO_TOTALS_ASKED:
            self.assertRaises(NoDice, again, many + ((1,),), total)
            self.assertRaises(NoDice, again, ((2, 1),), total)
            self.assertRaises(NoNumber, again, many, total)
        self.assertRaises(NoDice, again, many + ((1,),), 3)
        self.assertRaises(TooMany, again, many, 3)


if __name__ == "__main__":
    unittest.main()
