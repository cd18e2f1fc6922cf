import unittest
from itertools import product

from dicesums.errors import NoDice, NoNumber, NoSide
from dicesums.keeping import kept
from tests.support import NO_DICE, NOT_NUMBERS, plain_totals

SIX = (1, 2, 3, 4, 5, 6)

SOME_DICE = [
    ((0,),),
    ((5, 5, 30),),
    (SIX, SIX),
    ((1, 1), (2, 3)),
    ((0, 7), (7, 7, 8)),
    (SIX, SIX, SIX),
    ((0, 0, 7), (2, 2), (1, 5, 5, 9)),
    ((30, 30), (0,), (3, 9)),
    (SIX, SIX, SIX, SIX),
    ((0, 30), (1, 29), (2, 28), (3, 3, 27)),
]

NO_SIDES = [None, True, False, 0, 1, "", "Greatest", "greatest ", " least", "LEAST", "great", "most", "leastgreatest",
            ("least",), ["greatest"], {"least"}, {"least": 1}, b"least", object(), ("greatest", "least")]


def plain_kept(dice, many, side):
    counts = {}
    for roll in product(*dice):
        faces = sorted(roll, reverse=side == "greatest")
        counts[sum(faces[:many])] = counts.get(sum(faces[:many]), 0) + 1
    return sorted(counts.items())


class KeptTest(unittest.TestCase):
    def test_the_greatest(self):
        self.assertEqual(kept(((1, 2), (1, 2)), 1, "greatest"), [(1, 1), (2, 3)])
        self.assertEqual(kept(((1, 9), (2,), (3,)), 2, "greatest"), [(5, 1), (12, 1)])
        self.assertEqual(kept((SIX, SIX, SIX, SIX), 3, "greatest")[-1], (18, 21))

    def test_the_least(self):
        self.assertEqual(kept(((1, 2), (1, 2)), 1, "least"), [(1, 3), (2, 1)])
        self.assertEqual(kept(((1, 9), (2,), (3,)), 2, "least"), [(3, 1), (5, 1)])
        self.assertEqual(kept((SIX, SIX, SIX, SIX), 3, "least")[0], (3, 21))

    def test_a_face_that_is_there_twice_counts_twice(self):
        self.assertEqual(kept(((2, 2), (1,)), 1, "greatest"), [(2, 2)])
        self.assertEqual(kept(((2, 2), (1, 3, 3)), 1, "least"), [(1, 2), (2, 4)])
        self.assertEqual(kept(((5,), (5,), (5,)), 2, "least"), [(10, 1)])

    def test_as_by_all_rolls(self):
        for dice in SOME_DICE:
            for many in range(1, len(dice) + 1):
                for side in ("greatest", "least"):
                    with self.subTest((dice, many, side)):
                        self.assertEqual(kept(dice, many, side), plain_kept(dice, many, side))

    def test_all_kept_are_the_totals(self):
        for dice in SOME_DICE:
            for side in ("greatest", "least"):
                self.assertEqual(kept(dice, len(dice), side), plain_totals(dice))

    def test_as_many_rolls_as_may_be(self):
        self.assertEqual(kept(((30,) * 8,) * 4, 4, "greatest"), [(120, 4096)])
        self.assertEqual(kept(((30,) * 8,) * 4, 1, "least"), [(30, 4096)])
        eight = ((0, 1, 2, 3, 4, 5, 6, 30),) * 4
        self.assertEqual(kept(eight, 2, "greatest"), plain_kept(eight, 2, "greatest"))

    def test_told_list_is_a_new_one(self):
        kept((SIX,), 1, "least").clear()
        self.assertEqual(kept((SIX,), 1, "least"), [(face, 1) for face in SIX])

    def test_what_is_handed_in_is_as_it_was(self):
        dice = ((3, 9), (1, 2))
        side = ["least"]
        kept(dice, 1, "greatest")
        self.assertRaises(NoSide, kept, dice, 1, side)
        self.assertEqual(dice, ((3, 9), (1, 2)))
        self.assertEqual(side, ["least"])

    def test_a_side_that_is_put_together(self):
        self.assertEqual(kept((SIX,), 1, "".join(["le", "ast"])), [(face, 1) for face in SIX])

    def test_kinds(self):
        told = kept((SIX, SIX), 1, "greatest")
        self.assertIs(type(told), list)
        for row in told:
            self.assertIs(type(row), tuple)


class RefusedTest(unittest.TestCase):
    def test_no_dice(self):
        for dice in NO_DICE:
            with self.subTest(repr(dice)):
                self.assertRaises(NoDice, kept, dice, 1, "least")

    def test_no_number(self):
        for dice in [(SIX,), (SIX, SIX), (SIX, SIX, SIX), (SIX, SIX, SIX, SIX)]:
            for many in [0, -1, len(dice) + 1, 10 ** 30] + NOT_NUMBERS:
                for side in ("greatest", "least"):
                    with self.subTest((len(dice), repr(many), side)):
                        self.assertRaises(NoNumber, kept, dice, many, side)

    def test_no_side(self):
        for side in NO_SIDES:
            with self.subTest(repr(side)):
                self.assertRaises(NoSide, kept, (SIX, SIX), 1, side)
                self.assertRaises(NoSide, kept, (SIX, SIX), 2, side)

    def test_the_one_that_is_named_first(self):
        self.assertRaises(NoDice, kept, (), 0, "none")
        self.assertRaises(NoDice, kept, None, None, None)
        self.assertRaises(NoDice, kept, ((2, 1),), 1, "none")
        self.assertRaises(NoDice, kept, ((2, 1),), 0, "least")
        self.assertRaises(NoNumber, kept, (SIX,), 2, "none")
        self.assertRaises(NoNumber, kept, (SIX,), True, None)


if __name__ == "__main__":
    unittest.main()
