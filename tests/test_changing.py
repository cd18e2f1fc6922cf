import unittest
from itertools import product

from dicesums.changing import both, mirrored, shifted, stretched
from dicesums.dice import totals
from dicesums.errors import NoDie, NoNumber, TooMany
from tests.support import NO_DIES, NOT_NUMBERS

SIX = (1, 2, 3, 4, 5, 6)

SOME_DIES = [(0,), (30,), (0, 30), (0, 0, 1), SIX, (1, 3, 4, 5, 6, 8), (2, 2, 2, 9), (29, 30, 30), (15,) * 8,
             (0, 1, 1, 2, 3, 5, 8, 13), (10, 20)]


def is_proper(faces):
    return 1 <= len(faces) <= 8 and 0 <= min(faces) and max(faces) <= 30


class ShiftedTest(unittest.TestCase):
    def test_face_by_face(self):
        self.assertEqual(shifted(SIX, 3), (4, 5, 6, 7, 8, 9))
        self.assertEqual(shifted(SIX, -1), (0, 1, 2, 3, 4, 5))
        self.assertEqual(shifted(SIX, 0), SIX)
        self.assertEqual(shifted((2, 2, 9), 1), (3, 3, 10))

    def test_faces_0_and_30_are_had(self):
        self.assertEqual(shifted((0,), 30), (30,))
        self.assertEqual(shifted((30,), -30), (0,))
        self.assertEqual(shifted((5, 20), 10), (15, 30))
        self.assertEqual(shifted((5, 20), -5), (0, 15))

    def test_other_faces_are_none(self):
        self.assertRaises(NoNumber, shifted, (5, 20), 11)
        self.assertRaises(NoNumber, shifted, (5, 20), -6)
        self.assertRaises(NoNumber, shifted, (0, 30), 1)
        self.assertRaises(NoNumber, shifted, (0, 30), -1)
        self.assertRaises(NoNumber, shifted, (1,), 30)
        self.assertRaises(NoNumber, shifted, (30,), 1)
        self.assertRaises(NoNumber, shifted, (29,), -30)

    def test_any_number(self):
        for die in SOME_DIES:
            for by in range(-32, 33):
                with self.subTest((die, by)):
                    faces = tuple(face + by for face in die)
                    if -30 <= by <= 30 and is_proper(faces):
                        self.assertEqual(shifted(die, by), faces)
                    else:
                        self.assertRaises(NoNumber, shifted, die, by)

    def test_no_number(self):
        for by in [-31, 31, 10 ** 30, -(10 ** 30)] + NOT_NUMBERS:
            with self.subTest(repr(by)):
                for die in [(0,), (15,), (30,), SIX]:
                    self.assertRaises(NoNumber, shifted, die, by)

    def test_no_die_comes_first(self):
        for die in NO_DIES:
            with self.subTest(repr(die)):
                for by in [0, 1, -31, 31] + NOT_NUMBERS:
                    self.assertRaises(NoDie, shifted, die, by)


class StretchedTest(unittest.TestCase):
    def test_face_by_face(self):
        self.assertEqual(stretched(SIX, 2), (2, 4, 6, 8, 10, 12))
        self.assertEqual(stretched(SIX, 1), SIX)
        self.assertEqual(stretched((0, 2, 2), 3), (0, 6, 6))

    def test_edges(self):
        self.assertEqual(stretched((30,), 1), (30,))
        self.assertEqual(stretched((0, 3), 9), (0, 27))
        self.assertEqual(stretched((1, 10), 3), (3, 30))
        self.assertEqual(stretched((0,) * 8, 9), (0,) * 8)

    def test_a_face_above_30_is_none(self):
        self.assertRaises(NoNumber, stretched, (0, 4), 9)
        self.assertRaises(NoNumber, stretched, (1, 11), 3)
        self.assertRaises(NoNumber, stretched, (16,), 2)

    def test_any_number(self):
        for die in SOME_DIES:
            for times in range(-2, 12):
                with self.subTest((die, times)):
                    faces = tuple(face * times for face in die)
                    if 1 <= times <= 9 and is_proper(faces):
                        self.assertEqual(stretched(die, times), faces)
                    else:
                        self.assertRaises(NoNumber, stretched, die, times)

    def test_no_number(self):
        for times in [0, 10, -1, 10 ** 30, -(10 ** 30)] + NOT_NUMBERS:
            with self.subTest(repr(times)):
                for die in [(0,), (1,), (30,), SIX]:
                    self.assertRaises(NoNumber, stretched, die, times)

    def test_no_die_comes_first(self):
        for die in NO_DIES:
            with self.subTest(repr(die)):
                for times in [1, 2, 0, 10] + NOT_NUMBERS:
                    self.assertRaises(NoDie, stretched, die, times)


class MirroredTest(unittest.TestCase):
    def test_face_by_face_rising(self):
        self.assertEqual(mirrored((1, 2, 6)), (1, 5, 6))
        self.assertEqual(mirrored((0, 0, 30)), (0, 30, 30))
        self.assertEqual(mirrored((2, 3, 3, 9)), (2, 8, 8, 9))
        self.assertEqual(mirrored((0, 1, 1, 2, 3, 5, 8, 13)), (0, 5, 8, 10, 11, 12, 12, 13))

    def test_faces_that_are_their_own_mirror(self):
        for die in [(0,), (30,), (7, 7), SIX, (0, 30), (1, 4, 7)]:
            self.assertEqual(mirrored(die), die)

    def test_as_by_all_faces(self):
        for die in SOME_DIES:
            with self.subTest(die):
                self.assertEqual(mirrored(die), tuple(sorted(max(die) + min(die) - face for face in die)))
                self.assertEqual(mirrored(mirrored(die)), die)

    def test_no_die(self):
        for die in NO_DIES:
            with self.subTest(repr(die)):
                self.assertRaises(NoDie, mirrored, die)


class BothTest(unittest.TestCase):
    def test_all_sums_rising(self):
        self.assertEqual(both((1, 2), (1, 3)), (2, 3, 4, 5))
        self.assertEqual(both((1, 2), (5,)), (6, 7))
        self.assertEqual(both((0, 9), (1, 2, 20)), (1, 2, 10, 11, 20, 29))

    def test_a_sum_that_is_there_twice(self):
        self.assertEqual(both((1, 2), (1, 2)), (2, 3, 3, 4))
        self.assertEqual(both((3, 3), (4,)), (7, 7))

    def test_as_many_faces_as_may_be(self):
        self.assertEqual(both((0, 1, 2, 3), (0, 4)), (0, 1, 2, 3, 4, 5, 6, 7))
        self.assertEqual(both((0, 4), (0, 1, 2, 3)), (0, 1, 2, 3, 4, 5, 6, 7))
        self.assertEqual(both((1,) * 8, (2,)), (3,) * 8)
        self.assertEqual(both((2,), (1,) * 8), (3,) * 8)

    def test_more_faces_are_too_many(self):
        self.assertRaises(TooMany, both, (0, 1, 2), (0, 3, 6))
        self.assertRaises(TooMany, both, (0, 0, 0), (0, 0, 0))
        self.assertRaises(TooMany, both, (0,) * 8, (0, 1))
        self.assertRaises(TooMany, both, (0, 1), (0, 1, 2, 3, 4))
        self.assertRaises(TooMany, both, SIX, SIX)

    def test_the_greatest_face(self):
        self.assertEqual(both((0, 15), (0, 15)), (0, 15, 15, 30))
        self.assertEqual(both((30,), (0,)), (30,))
        self.assertRaises(TooMany, both, (30,), (1,))
        self.assertRaises(TooMany, both, (0, 15), (0, 16))
        self.assertRaises(TooMany, both, (30,) * 8, (30,) * 8)

    def test_as_by_all_sums(self):
        for one, other in product(SOME_DIES + [(0, 1), (4, 5, 6), (1, 2, 3, 4)], repeat=2):
            with self.subTest((one, other)):
                sums = tuple(sorted(a + b for a, b in product(one, other)))
                if is_proper(sums):
                    self.assertEqual(both(one, other), sums)
                    self.assertEqual(totals((both(one, other),)), totals((one, other)))
                else:
                    self.assertRaises(TooMany, both, one, other)

    def test_no_die_of_either(self):
        for die in NO_DIES:
            with self.subTest(repr(die)):
                self.assertRaises(NoDie, both, die, (1,))
                self.assertRaises(NoDie, both, (1,), die)
                self.assertRaises(NoDie, both, die, die)

    def test_no_die_comes_first(self):
        self.assertRaises(NoDie, both, (1,) * 9, (1,) * 8)
        self.assertRaises(NoDie, both, (30,) * 8, (1,) * 9)
        self.assertRaises(NoDie, both, (30,), (31,))
        self.assertRaises(NoDie, both, (31,), (30,))


class AllTest(unittest.TestCase):
    def test_kinds(self):
        for die in [shifted(SIX, 1), stretched(SIX, 2), mirrored((1, 2, 6)), both((1, 2), (1, 3))]:
            self.assertIs(type(die), tuple)
            self.assertEqual({type(face) for face in die}, {int})


if __name__ == "__main__":
    unittest.main()
