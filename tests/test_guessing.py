import unittest
from fractions import Fraction
from itertools import product
from math import gcd

from dicesums.errors import Against, NoChoices, NoNumber, Nothing
from dicesums.guessing import Guess
from tests.support import NO_DICE, NOT_NUMBERS, parts, plain_totals

SIX = (1, 2, 3, 4, 5, 6)
ONE_SIX = (SIX,)
TWO_SIXES = (SIX, SIX)
FOUR = ((1, 2, 3, 4),)

# 3 is reached by all, 1 by the first two, 12 by the third one alone, 6 by all but the second one.
CHOICES = [ONE_SIX, FOUR, TWO_SIXES]

# As many ways to each total, though the dice are others.
CRAZY = ((1, 2, 2, 3, 3, 4), (1, 3, 4, 5, 6, 8))


def plain_shares(choices, totals):
    likely = []
    for dice in choices:
        ways = dict(plain_totals(dice))
        chance = Fraction(1)
        for total in totals:
            chance *= Fraction(ways.get(total, 0), sum(ways.values()))
        likely.append(chance)
    return [chance / sum(likely) for chance in likely]


def shares(guess, many):
    return [guess.share(place) for place in range(many)]


def told(guess, many):
    return (guess.left(), guess.heard(), shares(guess, many), guess.likely())


def behind(choices, totals):
    guess = Guess(choices)
    for total in totals:
        guess.hear(total)
    return guess


class ChoicesTest(unittest.TestCase):
    def test_one_choice(self):
        guess = Guess([ONE_SIX])
        self.assertEqual(told(guess, 1), ([0], [], [(1, 1)], 0))
        self.assertEqual(guess.hear(6), 1)
        self.assertEqual(told(guess, 1), ([0], [6], [(1, 1)], 0))

    def test_six_choices(self):
        guess = Guess([((face,),) for face in range(1, 7)])
        self.assertEqual(told(guess, 6), ([0, 1, 2, 3, 4, 5], [], [(1, 6)] * 6, 0))
        self.assertEqual(guess.hear(4), 1)
        self.assertEqual(told(guess, 6), ([3], [4], [(0, 1)] * 3 + [(1, 1)] + [(0, 1)] * 2, 3))

    def test_choices_of_one_to_four_dice(self):
        guess = Guess([((1,),) * many for many in range(1, 5)])
        self.assertEqual(guess.left(), [0, 1, 2, 3])
        self.assertEqual(guess.hear(4), 1)
        self.assertEqual(guess.left(), [3])

    def test_other_dice_with_the_same_totals_are_choices(self):
        guess = Guess([TWO_SIXES, CRAZY])
        self.assertEqual(guess.hear(7), 2)
        self.assertEqual(shares(guess, 2), [(1, 2), (1, 2)])
        guess = Guess([((1, 2), (3,)), ((3,), (1, 2))])
        self.assertEqual(guess.left(), [0, 1])

    def test_no_list(self):
        for choices in [(ONE_SIX,), (ONE_SIX, FOUR), {ONE_SIX: 1}, {ONE_SIX}, ONE_SIX, SIX, None, True, 3, "choices",
                        b"1", object(), iter([ONE_SIX])]:
            with self.subTest(repr(choices)):
                self.assertRaises(NoChoices, Guess, choices)

    def test_too_few_and_too_many(self):
        self.assertRaises(NoChoices, Guess, [])
        self.assertRaises(NoChoices, Guess, [((face,),) for face in range(7)])

    def test_no_dice_among_them(self):
        for dice in NO_DICE:
            with self.subTest(repr(dice)):
                self.assertRaises(NoChoices, Guess, [dice])
                self.assertRaises(NoChoices, Guess, [dice, ONE_SIX])
                self.assertRaises(NoChoices, Guess, [ONE_SIX, FOUR, dice])

    def test_a_die_by_itself_is_no_choice(self):
        self.assertRaises(NoChoices, Guess, [SIX])
        self.assertRaises(NoChoices, Guess, [SIX, (1, 2, 3, 4)])

    def test_the_same_one_twice(self):
        self.assertRaises(NoChoices, Guess, [ONE_SIX, ONE_SIX])
        self.assertRaises(NoChoices, Guess, [ONE_SIX, FOUR, (tuple(range(1, 7)),)])
        self.assertRaises(NoChoices, Guess, [FOUR, TWO_SIXES, ONE_SIX, TWO_SIXES])


class HearTest(unittest.TestCase):
    def test_how_many_can_be_then(self):
        guess = Guess(CHOICES)
        self.assertEqual(guess.hear(3), 3)
        self.assertEqual(guess.hear(6), 2)
        self.assertEqual(guess.hear(3), 2)
        self.assertEqual(guess.hear(12), 1)
        self.assertEqual(guess.hear(12), 1)

    def test_each_total_counts_not_the_last_one_alone(self):
        guess = behind(CHOICES, [1, 6])
        self.assertEqual(guess.left(), [0])
        self.assertEqual(guess.hear(3), 1)
        self.assertEqual(guess.left(), [0])

    def test_edges(self):
        guess = Guess([((0,),), ((30,),) * 4])
        self.assertEqual(guess.hear(0), 1)
        self.assertEqual(guess.left(), [0])
        guess = Guess([((0,),), ((30,),) * 4])
        self.assertEqual(guess.hear(120), 1)
        self.assertEqual(guess.left(), [1])

    def test_no_number(self):
        for totals in ([], [3], [3, 6]):
            guess = behind(CHOICES, totals)
            before = told(guess, 3)
            for total in [-1, 121, 10 ** 30, -(10 ** 30)] + NOT_NUMBERS:
                with self.subTest((totals, repr(total))):
                    self.assertRaises(NoNumber, guess.hear, total)
                    self.assertEqual(told(guess, 3), before)

    def test_true_is_no_total_though_1_is_one(self):
        guess = Guess([((0, 1),)])
        self.assertRaises(NoNumber, guess.hear, True)
        self.assertRaises(NoNumber, guess.hear, False)
        self.assertEqual(guess.hear(1), 1)

    def test_against(self):
        for totals, total in [([], 0), ([], 13), ([], 120), ([3], 0), ([1], 12), ([12], 1), ([6, 12], 1), ([1, 6], 7)]:
            with self.subTest((totals, total)):
                guess = behind(CHOICES, totals)
                before = told(guess, 3)
                self.assertRaises(Against, guess.hear, total)
                self.assertEqual(told(guess, 3), before)
                self.assertEqual(guess.heard(), totals)

    def test_against_is_not_taken_back(self):
        guess = behind(CHOICES, [3, 12])
        self.assertRaises(Against, guess.hear, 1)
        self.assertEqual(guess.undo(), 12)
        self.assertEqual(guess.hear(1), 2)
        self.assertEqual(guess.heard(), [3, 1])


class ToldTest(unittest.TestCase):
    def test_ahead_of_all_totals(self):
        self.assertEqual(told(Guess(CHOICES), 3), ([0, 1, 2], [], [(1, 3)] * 3, 0))

    def test_behind_a_total(self):
        # 3 comes by 1 of 6, by 1 of 4, by 2 of 36.
        guess = behind(CHOICES, [3])
        self.assertEqual(told(guess, 3), ([0, 1, 2], [3], [(6, 17), (9, 17), (2, 17)], 1))

    def test_behind_the_same_total_twice(self):
        guess = behind(CHOICES, [3, 3])
        self.assertEqual(told(guess, 3), ([0, 1, 2], [3, 3], [(36, 121), (81, 121), (4, 121)], 1))

    def test_behind_several_totals(self):
        # 6 comes by 1 of 6, never, by 5 of 36.
        guess = behind(CHOICES, [6])
        self.assertEqual(told(guess, 3), ([0, 2], [6], [(6, 11), (0, 1), (5, 11)], 0))
        guess = behind(CHOICES, [6, 7])
        self.assertEqual(told(guess, 3), ([2], [6, 7], [(0, 1), (0, 1), (1, 1)], 2))

    def test_totals_as_they_came(self):
        self.assertEqual(behind(CHOICES, [6, 3, 5, 3, 2]).heard(), [6, 3, 5, 3, 2])

    def test_a_face_that_is_there_twice_counts_twice(self):
        guess = behind([((1, 2, 2),), ((1, 1, 2),)], [2])
        self.assertEqual(shares(guess, 2), [(2, 3), (1, 3)])

    def test_ways_count_by_how_many_rolls_there_are(self):
        guess = behind([((1, 1, 2, 2),), ((1, 2),)], [1, 2, 2])
        self.assertEqual(shares(guess, 2), [(1, 2), (1, 2)])
        self.assertEqual(guess.likely(), 0)
        guess = behind([((1, 1, 2, 2, 2),), ((1, 2),)], [1])
        self.assertEqual(shares(guess, 2), [(4, 9), (5, 9)])
        self.assertEqual(guess.likely(), 1)

    def test_likely_is_the_least_place_of_like_ones(self):
        self.assertEqual(Guess(CHOICES).likely(), 0)
        guess = behind([((1,),), ((2, 3),), ((2, 4),), ((2, 5, 5),)], [2])
        self.assertEqual(shares(guess, 4), [(0, 1), (3, 8), (3, 8), (1, 4)])
        self.assertEqual(guess.likely(), 1)
        guess = behind([((2, 5, 5),), ((2, 4),), ((1,),), ((2, 3),)], [2])
        self.assertEqual(guess.likely(), 1)

    def test_as_by_all_that_was_heard(self):
        several = [
            CHOICES,
            [TWO_SIXES, CRAZY, ONE_SIX],
            [((0, 1), (0, 1)), ((0, 1, 2),), ((0, 0, 1, 2),), ((0, 2),), ((1,),), ((0, 1), (1, 2), (0,))],
            [((0, 0, 7), (2, 2), (1, 5, 5, 9)), ((3, 12),), ((3, 3, 7, 9, 12), (0, 0, 0))],
        ]
        for choices in several:
            reached = sorted({total for dice in choices for total, ways in plain_totals(dice)})
            for totals in product(reached, repeat=2):
                kept = [totals[0]]
                guess = behind(choices, kept)
                if any(set(totals) <= set(dict(plain_totals(dice))) for dice in choices):
                    guess.hear(totals[1])
                    kept = list(totals)
                else:
                    self.assertRaises(Against, guess.hear, totals[1])
                with self.subTest((choices, kept)):
                    wanted = plain_shares(choices, kept)
                    self.assertEqual(guess.heard(), kept)
                    self.assertEqual(guess.left(), [place for place, share in enumerate(wanted) if share])
                    self.assertEqual(shares(guess, len(choices)), [parts(share) for share in wanted])
                    self.assertEqual(guess.likely(), wanted.index(max(wanted)))

    def test_many_totals(self):
        totals = [7, 2, 12, 6, 8, 3, 7, 7, 11, 5] * 6
        choices = [TWO_SIXES, ((1, 2, 3, 4, 5, 6, 6), SIX), ((0, 1, 2, 3, 4, 5, 6), SIX)]
        guess = behind(choices, totals)
        self.assertEqual(shares(guess, 3), [parts(share) for share in plain_shares(choices, totals)])

    def test_shares_come_to_1_as_small_as_can_be(self):
        for totals in ([], [3], [3, 3], [6], [4, 6, 2, 2], [12, 7]):
            told_shares = shares(behind(CHOICES, totals), 3)
            self.assertEqual(sum(Fraction(*share) for share in told_shares), 1)
            for share in told_shares:
                self.assertEqual(gcd(*share), 1)

    def test_share_of_no_place(self):
        for totals in ([], [3], [1, 6]):
            guess = behind(CHOICES, totals)
            for place in [-1, -3, 3, 10 ** 30, -(10 ** 30)] + NOT_NUMBERS:
                with self.subTest((totals, repr(place))):
                    self.assertRaises(NoNumber, guess.share, place)
        self.assertRaises(NoNumber, Guess([ONE_SIX]).share, 1)

    def test_asking_changes_nothing(self):
        guess = behind(CHOICES, [3, 6])
        first = told(guess, 3)
        self.assertEqual(told(guess, 3), first)
        self.assertEqual(told(guess, 3), first)

    def test_kinds(self):
        guess = behind(CHOICES, [3])
        self.assertIs(type(guess.left()), list)
        self.assertIs(type(guess.heard()), list)
        self.assertIs(type(guess.share(0)), tuple)
        self.assertEqual([type(part) for part in guess.share(0)], [int, int])
        for number in (guess.likely(), guess.hear(3), guess.undo(), guess.left()[0]):
            self.assertIs(type(number), int)


class UndoTest(unittest.TestCase):
    def test_the_last_one_then_the_one_ahead(self):
        guess = behind(CHOICES, [3, 6, 3, 12])
        for total, kept in [(12, [3, 6, 3]), (3, [3, 6]), (6, [3]), (3, [])]:
            self.assertEqual(guess.undo(), total)
            self.assertEqual(told(guess, 3), told(behind(CHOICES, kept), 3))
        self.assertRaises(Nothing, guess.undo)
        self.assertEqual(told(guess, 3), told(Guess(CHOICES), 3))

    def test_choices_can_be_again(self):
        guess = behind(CHOICES, [1])
        self.assertEqual(guess.left(), [0, 1])
        self.assertEqual(guess.undo(), 1)
        self.assertEqual(guess.left(), [0, 1, 2])
        self.assertEqual(guess.hear(12), 1)
        self.assertEqual(guess.left(), [2])

    def test_nothing(self):
        guess = Guess(CHOICES)
        self.assertRaises(Nothing, guess.undo)
        self.assertRaises(Nothing, guess.undo)
        self.assertEqual(guess.hear(3), 3)
        self.assertEqual(guess.undo(), 3)
        self.assertRaises(Nothing, guess.undo)

    def test_the_total_0_is_taken_back_too(self):
        guess = behind([((0, 1),)], [0, 0])
        self.assertEqual(guess.undo(), 0)
        self.assertEqual(guess.undo(), 0)
        self.assertRaises(Nothing, guess.undo)


class ApartTest(unittest.TestCase):
    def test_two_guesses_do_not_change_one_another(self):
        one = Guess(CHOICES)
        other = Guess(CHOICES)
        one.hear(12)
        self.assertEqual(told(other, 3), told(Guess(CHOICES), 3))
        other.hear(1)
        self.assertEqual(told(one, 3), told(behind(CHOICES, [12]), 3))
        one.undo()
        self.assertEqual(told(other, 3), told(behind(CHOICES, [1]), 3))

    def test_the_same_calls_bring_the_same_answers(self):
        self.assertEqual(told(behind(list(CHOICES), [3, 6, 2]), 3), told(behind(list(CHOICES), [3, 6, 2]), 3))

    def test_choices_that_are_changed_later(self):
        choices = list(CHOICES)
        guess = behind(choices, [3])
        before = told(guess, 3)
        choices.reverse()
        self.assertEqual(told(guess, 3), before)
        choices.clear()
        self.assertEqual(told(guess, 3), before)
        self.assertEqual(guess.hear(6), 2)
        self.assertRaises(NoNumber, guess.share, 3)

    def test_choices_are_as_they_were(self):
        choices = list(CHOICES)
        guess = behind(choices, [3, 6])
        told(guess, 3)
        guess.undo()
        self.assertEqual(choices, [ONE_SIX, FOUR, TWO_SIXES])

    def test_lists_that_were_told_are_new_ones(self):
        guess = behind(CHOICES, [3, 6])
        before = told(guess, 3)
        guess.left().clear()
        guess.heard().clear()
        guess.heard().append(12)
        guess.left().append(1)
        self.assertEqual(told(guess, 3), before)
        heard = guess.heard()
        left = guess.left()
        guess.hear(12)
        self.assertEqual((heard, left), ([3, 6], [0, 2]))
        self.assertEqual(guess.undo(), 12)


if __name__ == "__main__":
    unittest.main()
