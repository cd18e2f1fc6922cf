import unittest
from fractions import Fraction
from itertools import permutations, product

from dicesums.beating import all_rings, beats, chance, is_ring, order, wins
from dicesums.errors import NoDice, NoDie, NoNumber
from tests.support import NO_DICE, NO_DIES, NOT_NUMBERS

SIX = (1, 2, 3, 4, 5, 6)

# Each beats the next one, the last one the first one.
ROUND = ((2, 4, 9), (1, 6, 8), (3, 5, 7))
ROUND_OF_FOUR = ((0, 0, 4, 4, 4, 4), (3, 3, 3, 3, 3, 3), (2, 2, 2, 2, 6, 6), (1, 1, 1, 5, 5, 5))
FALLING = ((4,), (3,), (2,), (1,))

# Enough unlike dice that rings of three and four, draws and plain rows all come about.
POOL = ROUND + ROUND_OF_FOUR


def plain_wins(one, other):
    faces = list(product(one, other))
    return (sum(a > b for a, b in faces), sum(a == b for a, b in faces), sum(a < b for a, b in faces))


def plain_beats(one, other):
    counts = plain_wins(one, other)
    return counts[0] > counts[2]


def plain_is_ring(dice, ring):
    return all(plain_beats(dice[ring[at - 1]], dice[ring[at]]) for at in range(len(ring)))


def plain_rings(dice):
    rings = [ring for many in (2, 3, 4) for ring in permutations(range(len(dice)), many) if min(ring) == ring[0]]
    return sorted(ring for ring in rings if plain_is_ring(dice, ring))


def plain_order(dice):
    for row in permutations(range(len(dice))):
        ahead = [(row[a], row[b]) for b in range(len(row)) for a in range(b)]
        if not any(plain_beats(dice[later], dice[earlier]) for earlier, later in ahead):
            return list(row)
    return None


def some_dice():
    return [dice for many in (1, 2, 3, 4) for dice in product(POOL, repeat=many)]


class WinsTest(unittest.TestCase):
    def test_pair_by_pair(self):
        self.assertEqual(wins(SIX, SIX), (15, 6, 15))
        self.assertEqual(wins((3,), (2,)), (1, 0, 0))
        self.assertEqual(wins((2,), (2,)), (0, 1, 0))
        self.assertEqual(wins((2,), (3,)), (0, 0, 1))
        self.assertEqual(wins((2, 4, 9), (1, 6, 8)), (5, 0, 4))
        self.assertEqual(wins((1, 5), (0, 5, 6)), (2, 1, 3))

    def test_a_face_that_is_there_twice_counts_twice(self):
        self.assertEqual(wins((3, 3), (1, 3, 3, 4)), (2, 4, 2))
        self.assertEqual(wins((2, 5, 5), (4,)), (2, 0, 1))
        self.assertEqual(wins((4,), (2, 5, 5)), (1, 0, 2))

    def test_edges(self):
        self.assertEqual(wins((0,), (30,)), (0, 0, 1))
        self.assertEqual(wins((30,) * 8, (0,) * 8), (64, 0, 0))
        self.assertEqual(wins((0,) * 8, (0,) * 8), (0, 64, 0))

    def test_as_by_all_pairs_of_faces(self):
        for one, other in product(POOL + (SIX, (0,), (1, 1, 30)), repeat=2):
            with self.subTest((one, other)):
                self.assertEqual(wins(one, other), plain_wins(one, other))
                self.assertIs(beats(one, other), plain_beats(one, other))

    def test_kind(self):
        self.assertIs(type(wins(SIX, SIX)), tuple)

    def test_no_die_of_either(self):
        for die in NO_DIES:
            with self.subTest(repr(die)):
                for asked in (wins, beats):
                    self.assertRaises(NoDie, asked, die, SIX)
                    self.assertRaises(NoDie, asked, SIX, die)
                    self.assertRaises(NoDie, asked, die, die)


class BeatsTest(unittest.TestCase):
    def test_more_wins_than_losses(self):
        self.assertIs(beats((2, 4, 9), (1, 6, 8)), True)
        self.assertIs(beats((1, 2, 2), (0, 2, 2)), True)

    def test_as_many(self):
        self.assertIs(beats(SIX, SIX), False)
        self.assertIs(beats((1, 5), (3,)), False)
        self.assertIs(beats((3,), (1, 5)), False)

    def test_fewer(self):
        self.assertIs(beats((1, 6, 8), (2, 4, 9)), False)
        self.assertIs(beats((0,), (1,)), False)

    def test_fewer_wins_than_draws_and_losses_together(self):
        self.assertEqual(wins((1, 1, 1, 2), (1, 1)), (2, 6, 0))
        self.assertIs(beats((1, 1, 1, 2), (1, 1)), True)

    def test_a_greater_mean_is_not_asked_for(self):
        self.assertIs(beats((1, 3, 3), (2, 2, 30)), False)
        self.assertIs(beats((3, 3, 3), (2, 2, 30)), True)


class AllRingsTest(unittest.TestCase):
    def test_three_dice(self):
        self.assertEqual(all_rings(ROUND), [(0, 1, 2)])
        self.assertEqual(all_rings((ROUND[1], ROUND[0], ROUND[2])), [(0, 2, 1)])
        self.assertEqual(all_rings((ROUND[1], ROUND[2], ROUND[0])), [(0, 1, 2)])

    def test_four_dice(self):
        self.assertEqual(all_rings(ROUND_OF_FOUR), [(0, 1, 2), (0, 1, 2, 3)])
        self.assertEqual(all_rings(ROUND_OF_FOUR[::-1]), [(0, 3, 2, 1), (1, 3, 2)])

    def test_a_ring_beside_other_dice(self):
        self.assertEqual(all_rings(((0,),) + ROUND), [(1, 2, 3)])
        self.assertEqual(all_rings(ROUND + ((30,),)), [(0, 1, 2)])

    def test_a_die_that_is_there_twice(self):
        self.assertEqual(all_rings(ROUND + ROUND[:1]), [(0, 1, 2), (1, 2, 3)])

    def test_no_ring(self):
        self.assertEqual(all_rings((SIX,)), [])
        self.assertEqual(all_rings((SIX, SIX)), [])
        self.assertEqual(all_rings(ROUND[:2]), [])
        self.assertEqual(all_rings((SIX,) * 4), [])
        self.assertEqual(all_rings(FALLING), [])

    def test_as_by_trying_all(self):
        for dice in some_dice():
            with self.subTest(dice):
                self.assertEqual(all_rings(dice), plain_rings(dice))

    def test_told_list_is_a_new_one(self):
        all_rings(ROUND).clear()
        self.assertEqual(all_rings(ROUND), [(0, 1, 2)])

    def test_kinds(self):
        told = all_rings(ROUND_OF_FOUR)
        self.assertIs(type(told), list)
        for ring in told:
            self.assertIs(type(ring), tuple)
            for place in ring:
                self.assertIs(type(place), int)


class IsRingTest(unittest.TestCase):
    def test_a_ring_may_begin_at_any_of_its_places(self):
        for ring in [(0, 1, 2), (1, 2, 0), (2, 0, 1)]:
            self.assertIs(is_ring(ROUND, ring), True)
        for ring in [(0, 1, 2, 3), (1, 2, 3, 0), (3, 0, 1, 2), (2, 0, 1)]:
            self.assertIs(is_ring(ROUND_OF_FOUR, ring), True)

    def test_one_does_not_beat_the_next(self):
        for ring in [(0, 2, 1), (2, 1, 0), (1, 0, 2)]:
            self.assertIs(is_ring(ROUND, ring), False)
        # Here all but the last one, which draws with the first one, beat the next.
        self.assertIs(is_ring(ROUND_OF_FOUR, (3, 0, 1)), False)
        self.assertIs(is_ring(FALLING, (0, 1, 2, 3)), False)
        self.assertIs(is_ring((SIX, SIX, SIX), (0, 1, 2)), False)

    def test_too_short(self):
        for ring in [(), (0,), (0, 1), (1, 0)]:
            self.assertIs(is_ring(ROUND, ring), False)

    def test_a_place_twice(self):
        for ring in [(0, 0), (0, 1, 2, 0), (0, 1, 2, 0, 1, 2), (0, 1, 1, 2)]:
            self.assertIs(is_ring(ROUND, ring), False)

    def test_a_place_that_is_none(self):
        for ring in [(0, 1, 3), (0, 1, -1), (-3, -2, -1), (0, 1, 2, 10 ** 30), (1, 2, 3)]:
            self.assertIs(is_ring(ROUND, ring), False)

    def test_things_that_are_no_place(self):
        for thing in NOT_NUMBERS + [(0, 1, 2), [0, 1, 2], {0}, ((0,), (1,))]:
            with self.subTest(repr(thing)):
                self.assertIs(is_ring(ROUND, (0, 1, thing)), False)
                self.assertIs(is_ring(ROUND, (thing, 1, 2)), False)
                self.assertIs(is_ring(ROUND, (thing, thing)), False)
        self.assertIs(is_ring(ROUND, (0, True, 2)), False)
        self.assertIs(is_ring(ROUND, (False, 1, 2)), False)

    def test_things_that_are_no_tuple(self):
        for thing in NOT_NUMBERS + [[0, 1, 2], "012", 12, {0, 1, 2}, {0: 1, 1: 2}, range(3), ((0, 1, 2),),
                                    [(0, 1, 2)], (((),),), b"012", ROUND, is_ring]:
            with self.subTest(repr(thing)):
                self.assertIs(is_ring(ROUND, thing), False)

    def test_as_by_trying_all(self):
        for dice in product(POOL[2:], repeat=3):
            rings = plain_rings(dice)
            for ring in permutations(range(3), 3):
                turned = ring[ring.index(0):] + ring[:ring.index(0)]
                self.assertIs(is_ring(dice, ring), turned in rings)

    def test_what_is_handed_in_is_as_it_was(self):
        thing = [0, [1], 2]
        is_ring(ROUND, thing)
        is_ring(ROUND, (0, 1, thing))
        self.assertEqual(thing, [0, [1], 2])

    def test_no_dice_comes_first(self):
        for thing in [(), (0, 1, 2), [0], None, True, "0", ((),)]:
            self.assertRaises(NoDice, is_ring, ROUND[:2] + ((2, 1),), thing)
            self.assertRaises(NoDice, is_ring, (), thing)
            self.assertRaises(NoDice, is_ring, None, thing)


class OrderTest(unittest.TestCase):
    def test_none_beats_one_ahead(self):
        self.assertEqual(order((SIX,)), [0])
        self.assertEqual(order(((1,), (2,))), [1, 0])
        self.assertEqual(order(((2,), (1,))), [0, 1])
        self.assertEqual(order(FALLING), [0, 1, 2, 3])
        self.assertEqual(order(FALLING[::-1]), [3, 2, 1, 0])
        self.assertEqual(order(((5,), (9,), (1,), (7,))), [1, 3, 0, 2])

    def test_the_first_of_several_rows(self):
        self.assertEqual(order((SIX,) * 4), [0, 1, 2, 3])
        self.assertEqual(order(((1,), (2,), (2,))), [1, 2, 0])
        # The first die draws with the second one, the second one with the third one, which beats the first one.
        self.assertEqual(order(((0, 3), (2,), (1, 4))), [1, 2, 0])
        self.assertEqual(order(((1, 4), (2,), (0, 3))), [0, 1, 2])
        self.assertEqual(order(((2,), (0, 3), (1, 4))), [0, 2, 1])

    def test_none_just_where_there_is_a_ring(self):
        self.assertIsNone(order(ROUND))
        self.assertIsNone(order(ROUND_OF_FOUR))
        self.assertIsNone(order(((30,),) + ROUND))
        self.assertIsNone(order(ROUND + ((0,),)))
        for dice in some_dice():
            self.assertIs(order(dice) is None, all_rings(dice) != [])

    def test_as_by_trying_all(self):
        for dice in some_dice() + list(product([(2,), (0, 3), (1, 4), (1, 2)], repeat=4)):
            with self.subTest(dice):
                self.assertEqual(order(dice), plain_order(dice))

    def test_told_list_is_a_new_one(self):
        order(FALLING).clear()
        self.assertEqual(order(FALLING), [0, 1, 2, 3])

    def test_kind(self):
        self.assertIs(type(order(FALLING)), list)


class ChanceTest(unittest.TestCase):
    def test_a_total_or_more(self):
        self.assertEqual(chance((SIX,), 6), (1, 6))
        self.assertEqual(chance((SIX,), 5), (1, 3))
        self.assertEqual(chance((SIX, SIX), 12), (1, 36))
        self.assertEqual(chance((SIX, SIX), 7), (7, 12))
        self.assertEqual(chance((SIX, SIX), 3), (35, 36))
        self.assertEqual(chance(((1, 9),), 5), (1, 2))

    def test_a_face_that_is_there_twice_counts_twice(self):
        self.assertEqual(chance(((1, 2, 2),), 2), (2, 3))

    def test_sure(self):
        self.assertEqual(chance((SIX, SIX), 2), (1, 1))
        self.assertEqual(chance((SIX, SIX), 0), (1, 1))
        self.assertEqual(chance(((0,),), 0), (1, 1))
        self.assertEqual(chance(((30,) * 8,) * 4, 120), (1, 1))

    def test_never(self):
        self.assertEqual(chance((SIX, SIX), 13), (0, 1))
        self.assertEqual(chance((SIX, SIX), 999), (0, 1))
        self.assertEqual(chance(((30,) * 8,) * 4, 121), (0, 1))
        self.assertEqual(chance(((0,),), 1), (0, 1))

    def test_as_by_all_rolls(self):
        for dice in [(SIX, SIX, SIX), ROUND, ROUND_OF_FOUR, ((0, 30), (1, 1, 7)), ((0, 0, 5, 5, 5, 9, 9, 30),)]:
            sums = [sum(roll) for roll in product(*dice)]
            for total in range(max(sums) + 2):
                with self.subTest((dice, total)):
                    wanted = Fraction(sum(reached >= total for reached in sums), len(sums))
                    self.assertEqual(chance(dice, total), (wanted.numerator, wanted.denominator))

    def test_kinds(self):
        told = chance((SIX,), 0)
        self.assertIs(type(told), tuple)
        self.assertEqual([type(part) for part in told], [int, int])

    def test_no_number(self):
        for total in [-1, 1000, 10 ** 30, -(10 ** 30)] + NOT_NUMBERS:
            with self.subTest(repr(total)):
                self.assertRaises(NoNumber, chance, (SIX,), total)

    def test_no_dice_comes_first(self):
        for total in [-1, 1000] + NOT_NUMBERS:
            self.assertRaises(NoDice, chance, ((2, 1),), total)
            self.assertRaises(NoDice, chance, None, total)


class RefusedTest(unittest.TestCase):
    def test_no_dice(self):
        for dice in NO_DICE:
            with self.subTest(repr(dice)):
                self.assertRaises(NoDice, all_rings, dice)
                self.assertRaises(NoDice, is_ring, dice, (0, 1, 2))
                self.assertRaises(NoDice, order, dice)
                self.assertRaises(NoDice, chance, dice, 3)


if __name__ == "__main__":
    unittest.main()
