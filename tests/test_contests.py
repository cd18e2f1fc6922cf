import unittest
from fractions import Fraction
from itertools import permutations, product
from math import gcd

from dicesums.beating import all_rings, beats, wins
from dicesums.contests import against, alone, shared, twice_rings
from dicesums.errors import NoDice
from tests.support import NO_DICE, parts

SIX = (1, 2, 3, 4, 5, 6)

SOME_DICE = [
    ((0,),),
    (SIX,),
    ((5, 5, 30),),
    (SIX, SIX),
    ((1, 1), (2, 3)),
    ((0,), (0,)),
    ((3, 3, 4), (3, 4, 4)),
    ((0, 7), (7, 7, 8)),
    ((2, 4, 9), (1, 6, 8), (3, 5, 7)),
    (SIX, SIX, SIX),
    ((0, 0, 7), (2, 2), (1, 5, 5, 9)),
    ((30,), (0,), (3, 9)),
    (SIX, SIX, SIX, SIX),
    ((0, 0, 4, 4, 4, 4), (3,) * 6, (2, 2, 2, 2, 6, 6), (1, 1, 1, 5, 5, 5)),
    ((0, 30), (1, 29), (2, 28), (3, 3, 27)),
    ((0, 30), (30,), (5, 5), (0, 30, 30)),
]

# Rolled once each beats the next one; rolled twice each beats the one ahead.
TURNING = ((3, 3, 3, 3, 3, 6), (2, 2, 2, 5, 5, 5), (1, 4, 4, 4, 4, 4))
ONLY_ONCE = ((2, 4, 9), (1, 6, 8), (3, 5, 7))
ONLY_ONCE_OF_FOUR = ((0, 0, 4, 4, 4, 4), (3, 3, 3, 3, 3, 3), (2, 2, 2, 2, 6, 6), (1, 1, 1, 5, 5, 5))
ONLY_TWICE = ((3,), (0, 3, 5), (1, 1, 6))
ONLY_TWICE_OF_FOUR = ((2,), (0, 0, 5), (0, 1, 4), (0, 3, 3))


def plain_alone(dice):
    """For each die the number of rolls in which it is alone, then the number of those in which none is."""
    counts = [0] * (len(dice) + 1)
    for roll in product(*dice):
        lone = [place for place, face in enumerate(roll)
                if all(face > other for at, other in enumerate(roll) if at != place)]
        counts[lone[0] if lone else len(dice)] += 1
    return [parts(Fraction(count, sum(counts))) for count in counts]


def plain_against(one, other):
    counts = [0, 0, 0]
    for mine, yours in product(product(*one), product(*other)):
        counts[0 if sum(mine) > sum(yours) else 1 if sum(mine) == sum(yours) else 2] += 1
    return tuple(counts)


def plain_twice_beats(one, other):
    sums = list(product([a + b for a in one for b in one], [a + b for a in other for b in other]))
    return sum(mine > yours for mine, yours in sums) > sum(mine < yours for mine, yours in sums)


def plain_twice_rings(dice):
    rings = [ring for many in (2, 3, 4) for ring in permutations(range(len(dice)), many) if min(ring) == ring[0]]
    return sorted(ring for ring in rings
                  if all(plain_twice_beats(dice[ring[at - 1]], dice[ring[at]]) for at in range(len(ring))))


class AloneTest(unittest.TestCase):
    def test_one_die_is_always_alone(self):
        for die in [(0,), (30,) * 8, SIX]:
            self.assertEqual(alone((die,)), [(1, 1)])
            self.assertEqual(shared((die,)), (0, 1))

    def test_two_dice(self):
        self.assertEqual(alone((SIX, SIX)), [(5, 12), (5, 12)])
        self.assertEqual(shared((SIX, SIX)), (1, 6))
        self.assertEqual(alone(((3,), (1, 2))), [(1, 1), (0, 1)])
        self.assertEqual(shared(((3,), (1, 2))), (0, 1))

    def test_three_dice(self):
        self.assertEqual(alone(((1, 4), (2,), (3, 4))), [(1, 4), (0, 1), (1, 2)])
        self.assertEqual(shared(((1, 4), (2,), (3, 4))), (1, 4))

    def test_only_the_greatest_is_to_be_there_once(self):
        self.assertEqual(alone(((1,), (1,), (2,))), [(0, 1), (0, 1), (1, 1)])
        self.assertEqual(alone(((1,), (2,), (2,))), [(0, 1), (0, 1), (0, 1)])
        self.assertEqual(shared(((1,), (1,), (2,))), (0, 1))
        self.assertEqual(shared(((1,), (2,), (2,))), (1, 1))

    def test_a_face_that_is_there_twice_counts_twice(self):
        self.assertEqual(alone(((2, 2, 5), (3,))), [(1, 3), (2, 3)])
        self.assertEqual(alone(((3, 3), (1, 3, 3))), [(1, 3), (0, 1)])
        self.assertEqual(shared(((3, 3), (1, 3, 3))), (2, 3))

    def test_a_die_that_stands_twice(self):
        self.assertEqual(alone(((5,), (5,))), [(0, 1), (0, 1)])
        self.assertEqual(shared(((5,), (5,))), (1, 1))
        self.assertEqual(alone(((0, 1), (0, 1), (0, 1))), [(1, 8), (1, 8), (1, 8)])
        self.assertEqual(shared(((0, 1), (0, 1), (0, 1))), (5, 8))

    def test_edges(self):
        self.assertEqual(alone(((30,) * 8, (0,) * 8, (29,) * 8, (0,) * 8)), [(1, 1), (0, 1), (0, 1), (0, 1)])
        self.assertEqual(shared(((0,) * 8,) * 4), (1, 1))

    def test_as_by_all_rolls(self):
        for dice in SOME_DICE:
            with self.subTest(dice):
                self.assertEqual(alone(dice) + [shared(dice)], plain_alone(dice))

    def test_all_together_come_to_1(self):
        for dice in SOME_DICE:
            with self.subTest(dice):
                self.assertEqual(sum(Fraction(*share) for share in alone(dice) + [shared(dice)]), 1)

    def test_as_small_as_can_be(self):
        for dice in SOME_DICE:
            for part, whole in alone(dice) + [shared(dice)]:
                self.assertEqual(gcd(part, whole), 1, dice)

    def test_told_list_is_a_new_one(self):
        alone((SIX, SIX)).clear()
        self.assertEqual(alone((SIX, SIX)), [(5, 12), (5, 12)])

    def test_kinds(self):
        told = alone((SIX, SIX))
        self.assertIs(type(told), list)
        for share in told + [shared((SIX, SIX)), shared((SIX,))]:
            self.assertIs(type(share), tuple)
            self.assertEqual([type(part) for part in share], [int, int])


class AgainstTest(unittest.TestCase):
    def test_one_die_against_one_die(self):
        for one, other in product([SIX, (0,), (30,), (3, 3), (1, 3, 3, 4), (2, 4, 9), (1, 6, 8)], repeat=2):
            with self.subTest((one, other)):
                self.assertEqual(against((one,), (other,)), wins(one, other))

    def test_several_against_several(self):
        self.assertEqual(against(((1, 2), (1, 2)), ((3,),)), (1, 2, 1))
        self.assertEqual(against(((1, 2), (1, 2)), ((1,), (1,))), (3, 1, 0))
        self.assertEqual(against(((1,), (1,), (1,)), ((2, 4),)), (1, 0, 1))

    def test_the_totals_count_and_not_the_faces(self):
        self.assertEqual(against(((1,), (1,), (1,)), ((2,),)), (1, 0, 0))
        self.assertEqual(against(((0,), (9,)), ((5,), (5,))), (0, 0, 1))
        self.assertEqual(against(((0,), (9,)), ((4,), (5,))), (0, 1, 0))

    def test_as_by_all_pairs_of_rolls(self):
        few = [dice for dice in SOME_DICE if sum(map(len, dice)) < 12]
        for one, other in product(few, repeat=2):
            with self.subTest((one, other)):
                self.assertEqual(against(one, other), plain_against(one, other))
        self.assertEqual(against((SIX,) * 3, (SIX,) * 2), plain_against((SIX,) * 3, (SIX,) * 2))

    def test_the_other_way_about(self):
        for one, other in product(SOME_DICE, repeat=2):
            with self.subTest((one, other)):
                self.assertEqual(against(other, one), against(one, other)[::-1])

    def test_as_many_rolls_as_may_be(self):
        most = ((30,) * 8,) * 4
        least = ((0,) * 8,) * 4
        self.assertEqual(against(most, least), (4096 ** 2, 0, 0))
        self.assertEqual(against(most, most), (0, 4096 ** 2, 0))
        self.assertEqual(against(least, most), (0, 0, 4096 ** 2))

    def test_kinds(self):
        told = against((SIX,), (SIX, SIX))
        self.assertIs(type(told), tuple)
        self.assertEqual([type(count) for count in told], [int, int, int])

    def test_no_dice_of_either(self):
        for dice in NO_DICE:
            with self.subTest(repr(dice)):
                self.assertRaises(NoDice, against, dice, (SIX,))
                self.assertRaises(NoDice, against, (SIX,), dice)
                self.assertRaises(NoDice, against, dice, dice)


class TwiceRingsTest(unittest.TestCase):
    def test_rings_that_turn(self):
        self.assertEqual(all_rings(TURNING), [(0, 1, 2)])
        self.assertEqual(twice_rings(TURNING), [(0, 2, 1)])
        self.assertEqual(twice_rings(TURNING[::-1]), [(0, 1, 2)])
        self.assertEqual(twice_rings((TURNING[1], TURNING[0], TURNING[2])), [(0, 1, 2)])

    def test_rings_only_of_dice_that_are_rolled_once(self):
        for dice in (ONLY_ONCE, ONLY_ONCE_OF_FOUR):
            self.assertNotEqual(all_rings(dice), [])
            self.assertEqual(twice_rings(dice), [])

    def test_rings_only_of_dice_that_are_rolled_twice(self):
        self.assertEqual(all_rings(ONLY_TWICE), [])
        self.assertEqual(twice_rings(ONLY_TWICE), [(0, 1, 2)])

    def test_several_rings_rise_each_with_its_least_place_first(self):
        self.assertEqual(all_rings(ONLY_TWICE_OF_FOUR), [])
        self.assertEqual(twice_rings(ONLY_TWICE_OF_FOUR), [(0, 2, 1), (0, 3, 1), (0, 3, 2, 1)])
        self.assertEqual(twice_rings(ONLY_TWICE_OF_FOUR[::-1]), [(0, 1, 2, 3), (0, 2, 3), (1, 2, 3)])

    def test_a_ring_beside_other_dice(self):
        self.assertEqual(twice_rings(((0,),) + TURNING), [(1, 3, 2)])
        self.assertEqual(twice_rings(TURNING + ((30,),)), [(0, 2, 1)])
        self.assertEqual(twice_rings(TURNING + TURNING[:1]), [(0, 2, 1), (1, 3, 2)])

    def test_no_ring(self):
        for dice in [(SIX,), (SIX, SIX), TURNING[:2], (SIX,) * 4, ((4,), (3,), (2,), (1,)), ((30,) * 8,) * 4]:
            self.assertEqual(twice_rings(dice), [])

    def test_two_rolls_of_each_added_not_one_face_doubled(self):
        doubled = tuple(tuple(2 * face for face in die) for die in ONLY_ONCE)
        self.assertTrue(beats(doubled[0], doubled[1]))
        self.assertFalse(plain_twice_beats(ONLY_ONCE[0], ONLY_ONCE[1]))
        self.assertEqual(twice_rings(doubled), [])

    def test_as_by_trying_all(self):
        pool = ONLY_TWICE_OF_FOUR + ONLY_TWICE + ((0, 0, 6), (1, 2))
        for dice in [dice for many in (1, 2, 3) for dice in product(pool, repeat=many)]:
            with self.subTest(dice):
                self.assertEqual(twice_rings(dice), plain_twice_rings(dice))
        for dice in permutations(pool[:6], 4):
            with self.subTest(dice):
                self.assertEqual(twice_rings(dice), plain_twice_rings(dice))

    def test_told_list_is_a_new_one(self):
        twice_rings(TURNING).clear()
        self.assertEqual(twice_rings(TURNING), [(0, 2, 1)])

    def test_kinds(self):
        told = twice_rings(ONLY_TWICE_OF_FOUR)
        self.assertIs(type(told), list)
        for ring in told:
            self.assertIs(type(ring), tuple)
            self.assertEqual({type(place) for place in ring}, {int})


class RefusedTest(unittest.TestCase):
    def test_no_dice(self):
        for dice in NO_DICE:
            with self.subTest(repr(dice)):
                for asked in (alone, shared, twice_rings):
                    self.assertRaises(NoDice, asked, dice)


if __name__ == "__main__":
    unittest.main()
