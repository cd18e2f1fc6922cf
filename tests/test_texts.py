import unittest
from itertools import combinations_with_replacement

from dicesums.errors import NoDice, NoText
from dicesums.texts import read, shown
from tests.support import NO_DICE

WRITTEN = [
    (((0,),), "0"),
    (((30,),), "30"),
    (((1, 2, 3, 4, 5, 6),), "1,2,3,4,5,6"),
    (((0, 0, 9, 10, 11, 20, 29, 30),), "0,0,9,10,11,20,29,30"),
    (((1, 1), (2,)), "1,1 2"),
    (((3,), (0, 30), (7, 7, 7)), "3 0,30 7,7,7"),
    (((4,), (3,), (2,), (1,)), "4 3 2 1"),
    (((0,) * 8, (30,) * 8, (0, 1, 2, 3, 4, 5, 6, 7), (10,)),
     "0,0,0,0,0,0,0,0 30,30,30,30,30,30,30,30 0,1,2,3,4,5,6,7 10"),
]

REFUSED = {
    "a needless 0": ["00", "01", "1,02", "01,2", "1 02", "000", "030"],
    "a sign": ["+1", "-1", "-0", "+0", "1,+2", "1,-2", "1 -2"],
    "blanks": ["1  2", " 1", "1 ", " ", "  ", "1, 2", "1 ,2", "1,2  3", " 1 2 ", "1\t2", "1\n2", "1\n", "\n1", "1,2\t",
               "1\u00a02", "1\u20032", "1\r", "1\x0b2", "1\x1f", "1\x00"],
    "a comma too many": [",", ",1", "1,", "1,,2", "1, ", "1,2, 3", "1 ,2", ",,", "1,2,", "1 2,"],
    "nothing": [""],
    "letters and other signs": ["a", "1a", "1,b", "x 1", "1;2", "1.0", "1.", "1_0", "0x1", "1e1", "(1,2)", "1/2", "None",
                                "True", "1,2;3,4", "1|2", "'1'", "1\u201a2"],
    "digits of other scripts": ["\u0661", "1,\u0662", "\u0967", "\uff11", "\u00b2", "1\u0660", "\u2460", "\U0001d7cf",
                                "\u4e00", "\u00bd"],
    "faces that fall": ["2,1", "1,3,2", "0,0,1,0", "1,2 4,3", "10,9", "2,10,3"],
    "a face of 31 and more": ["31", "1,31", "30 31", "99", "100", "300", "1" * 10000, "1," + "9" * 10000, "0" * 10000],
    "nine faces": ["0,0,0,0,0,0,0,0,0", "1 1,2,3,4,5,6,7,8,9", "1," * 10000 + "1"],
    "five dice": ["1 1 1 1 1", "1,2 1,2 1,2 1,2 1,2", "1 " * 10000 + "1"],
    "half of a sign": ["\ud800", "1,\udc00"],
}

NO_TEXTS = [None, True, False, 0, 1, -1, (), ((1, 2),), (1, 2), [], ["1"], ("1",), {}, {"1": 1}, {"1"}, b"1", b"1,2",
            bytearray(b"1"), object(), str, [["1"]], range(3)]


class ShownTest(unittest.TestCase):
    def test_shown(self):
        for dice, text in WRITTEN:
            with self.subTest(text):
                self.assertEqual(shown(dice), text)
                self.assertIs(type(shown(dice)), str)

    def test_no_dice(self):
        for dice in NO_DICE:
            with self.subTest(repr(dice)):
                self.assertRaises(NoDice, shown, dice)


class ReadTest(unittest.TestCase):
    def test_read(self):
        for dice, text in WRITTEN:
            with self.subTest(text):
                self.assertEqual(read(text), dice)

    def test_each_face(self):
        for face in range(31):
            self.assertEqual(read(f"{face}"), ((face,),))
            self.assertEqual(read(f"0,{face} {face},30"), ((0, face), (face, 30)))

    def test_what_is_shown_is_read_back(self):
        dies = [die for many in (1, 2, 3) for die in combinations_with_replacement((0, 1, 9, 10, 30), many)]
        for at, die in enumerate(dies):
            for many in (1, 2, 3, 4):
                dice = tuple((dies[at - 1], die, dies[at // 2], dies[0])[:many])
                with self.subTest(dice):
                    self.assertEqual(read(shown(dice)), dice)

    def test_kinds(self):
        told = read("1,2 3")
        self.assertIs(type(told), tuple)
        self.assertEqual([type(die) for die in told], [tuple, tuple])
        self.assertEqual([type(face) for die in told for face in die], [int, int, int])

    def test_refused(self):
        for why, texts in REFUSED.items():
            for text in texts:
                with self.subTest(why, text=ascii(text[:40])):
                    self.assertRaises(NoText, read, text)

    def test_no_text(self):
        for thing in NO_TEXTS:
            with self.subTest(repr(thing)):
                self.assertRaises(NoText, read, thing)


if __name__ == "__main__":
    unittest.main()
