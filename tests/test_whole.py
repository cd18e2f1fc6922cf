"""What is promised over the whole program: its interface, new lists, things left as they were, refusals in order."""

import importlib
import inspect
import unittest
from copy import deepcopy

from dicesums import beating, changing, contests, dice, finding, guessing, keeping, measuring, rolling, texts
from dicesums.errors import (Against, DiceError, NoChoices, NoDice, NoDie, NoNumber, NoRoll, NoSide, NoText, NoTotals,
                             Nothing, TooMany)

SIX = (1, 2, 3, 4, 5, 6)
TWO = (SIX, SIX)
ROUND = ((2, 4, 9), (1, 6, 8), (3, 5, 7))
TURNING = ((3, 3, 3, 3, 3, 6), (2, 2, 2, 5, 5, 5), (1, 4, 4, 4, 4, 4))
SUMS = [(2, 1), (3, 2), (4, 1)]
MANY = ((1,) * 8,) * 4

INTERFACE = {
    "dice": {"totals": "dice", "ways": "dice total", "rolls": "dice", "alike": "one other", "parted": "one other"},
    "finding": {"pairs": "totals sizes least", "threes": "totals sizes least", "missing": "totals die",
                "others": "one other least"},
    "beating": {"wins": "one other", "beats": "one other", "all_rings": "dice", "is_ring": "dice thing",
                "order": "dice", "chance": "dice total"},
    "texts": {"shown": "dice", "read": "text"},
    "keeping": {"kept": "dice many side"},
    "measuring": {"mean": "dice", "spread": "dice", "middle": "dice", "likeliest": "dice"},
    "contests": {"alone": "dice", "shared": "dice", "twice_rings": "dice", "against": "one other"},
    "rolling": {"best_again": "dice roll total", "again": "dice total"},
    "changing": {"shifted": "die by", "stretched": "die times", "mirrored": "die", "both": "one other"},
    "guessing": {"Guess": "choices"},
}

METHODS = {"hear": "total", "left": "", "heard": "", "share": "place", "likely": "", "undo": ""}

# A call of each function that has an answer.
CALLS = [
    (dice.totals, (TWO,)),
    (dice.ways, (TWO, 7)),
    (dice.rolls, (TWO,)),
    (dice.alike, (TWO, ROUND)),
    (dice.parted, (TWO, ROUND)),
    (finding.pairs, (SUMS, (2, 2), 0)),
    (finding.threes, (SUMS, (1, 2, 2), 0)),
    (finding.missing, (SUMS, (1, 2))),
    (finding.others, (SIX, SIX, 1)),
    (beating.wins, (SIX, (2, 4, 9))),
    (beating.beats, (SIX, (2, 4, 9))),
    (beating.all_rings, (ROUND,)),
    (beating.is_ring, (ROUND, [0, [1], 2])),
    (beating.order, (TWO,)),
    (beating.chance, (TWO, 7)),
    (texts.shown, (TWO,)),
    (texts.read, ("1,2 3",)),
    (keeping.kept, (TWO, 1, "least")),
    (measuring.mean, (TWO,)),
    (measuring.spread, (TWO,)),
    (measuring.middle, (TWO,)),
    (measuring.likeliest, (ROUND,)),
    (contests.alone, (ROUND,)),
    (contests.shared, (TWO,)),
    (contests.twice_rings, (TURNING,)),
    (contests.against, (TWO, ROUND)),
    (rolling.best_again, (TWO, (1, 6), 9)),
    (rolling.again, (TWO, 9)),
    (changing.shifted, (SIX, 3)),
    (changing.stretched, (SIX, 3)),
    (changing.mirrored, ((1, 2, 6),)),
    (changing.both, ((1, 2), (1, 3))),
]

# For each function its refusals as they are named, each with what brings it about at its place among the arguments,
# or at several of them. All those that stand further behind are brought about too.
REFUSALS = [
    (dice.totals, (TWO,), [(NoDice, {0: None})]),
    (dice.ways, (TWO, 7), [(NoDice, {0: None}), (NoNumber, {1: 121})]),
    (dice.rolls, (TWO,), [(NoDice, {0: None})]),
    (dice.alike, (TWO, TWO), [(NoDice, {0: None}), (NoDice, {1: ()})]),
    (dice.parted, (TWO, TWO), [(NoDice, {0: None}), (NoDice, {1: ()})]),
    (finding.pairs, (SUMS, (2, 2), 0), [(NoTotals, {0: []}), (NoNumber, {1: (2,)}), (NoNumber, {2: True})]),
    (finding.threes, (SUMS, (1, 2, 2), 0),
     [(NoTotals, {0: ()}), (NoNumber, {2: 31}), (TooMany, {1: (5, 8, 8)})]),
    (finding.threes, (SUMS, (1, 2, 2), 0), [(NoTotals, {0: ()}), (NoNumber, {1: (5, 8, 9)})]),
    (finding.missing, (SUMS, (1, 2)), [(NoTotals, {0: None}), (NoDie, {1: None})]),
    (finding.others, (SIX, SIX, 1), [(NoDie, {0: None}), (NoDie, {1: (2, 1)}), (NoNumber, {2: None})]),
    (beating.wins, (SIX, SIX), [(NoDie, {0: None}), (NoDie, {1: ()})]),
    (beating.beats, (SIX, SIX), [(NoDie, {0: None}), (NoDie, {1: ()})]),
    (beating.all_rings, (ROUND,), [(NoDice, {0: None})]),
    (beating.is_ring, (ROUND, (0, 1, 2)), [(NoDice, {0: None})]),
    (beating.order, (ROUND,), [(NoDice, {0: None})]),
    (beating.chance, (TWO, 7), [(NoDice, {0: None}), (NoNumber, {1: 1000})]),
    (texts.shown, (TWO,), [(NoDice, {0: None})]),
    (texts.read, ("1,2",), [(NoText, {0: None})]),
    (keeping.kept, (TWO, 1, "least"), [(NoDice, {0: None}), (NoNumber, {1: 0}), (NoSide, {2: None})]),
    (measuring.mean, (TWO,), [(NoDice, {0: None})]),
    (measuring.spread, (TWO,), [(NoDice, {0: None})]),
    (measuring.middle, (TWO,), [(NoDice, {0: None})]),
    (measuring.likeliest, (TWO,), [(NoDice, {0: None})]),
    (contests.alone, (TWO,), [(NoDice, {0: None})]),
    (contests.shared, (TWO,), [(NoDice, {0: None})]),
    (contests.twice_rings, (TWO,), [(NoDice, {0: None})]),
    (contests.against, (TWO, TWO), [(NoDice, {0: None}), (NoDice, {1: ()})]),
    (rolling.best_again, (TWO, (1, 6), 9), [(NoDice, {0: None}), (NoRoll, {1: [1, 6]}), (NoNumber, {2: -1})]),
    (rolling.again, (TWO, 9), [(NoDice, {0: None}), (NoNumber, {1: True}), (TooMany, {0: MANY})]),
    (changing.shifted, (SIX, 3), [(NoDie, {0: None}), (NoNumber, {1: 31})]),
    (changing.stretched, (SIX, 3), [(NoDie, {0: None}), (NoNumber, {1: 0})]),
    (changing.mirrored, (SIX,), [(NoDie, {0: None})]),
    (changing.both, ((1, 2), (1, 3)), [(NoDie, {0: None}), (NoDie, {1: ()}), (TooMany, {0: SIX, 1: SIX})]),
    (guessing.Guess, ([TWO],), [(NoChoices, {0: None})]),
]


class InterfaceTest(unittest.TestCase):
    def test_names_and_arguments(self):
        for file, things in INTERFACE.items():
            module = importlib.import_module("dicesums." + file)
            for name, arguments in things.items():
                with self.subTest(f"{file}.{name}"):
                    signature = inspect.signature(getattr(module, name))
                    self.assertEqual(list(signature.parameters), arguments.split())

    def test_methods(self):
        for name, arguments in METHODS.items():
            with self.subTest(name):
                signature = inspect.signature(getattr(guessing.Guess, name))
                self.assertEqual(list(signature.parameters), ["self"] + arguments.split())

    def test_every_function_is_called_here(self):
        named = {f"dicesums.{file}.{name}" for file, things in INTERFACE.items() for name in things}
        called = {f"{asked.__module__}.{asked.__name__}" for asked, given in CALLS}
        refused = {f"{asked.__module__}.{asked.__name__}" for asked, given, refusals in REFUSALS}
        self.assertEqual(named - called, {"dicesums.guessing.Guess"})
        self.assertEqual(named, refused)


class AnswersTest(unittest.TestCase):
    def test_what_is_handed_in_is_as_it_was(self):
        for asked, given in CALLS:
            with self.subTest(asked.__name__):
                handed = deepcopy(given)
                asked(*handed)
                self.assertEqual(handed, given)

    def test_equal_things_give_equal_answers_whatever_was_asked_between(self):
        first = [asked(*given) for asked, given in CALLS]
        again = [asked(*deepcopy(given)) for asked, given in reversed(CALLS)]
        self.assertEqual(first, again[::-1])

    def test_lists_that_are_told_are_new_ones(self):
        told_lists = []
        for asked, given in CALLS:
            told = asked(*given)
            if isinstance(told, list):
                with self.subTest(asked.__name__):
                    told_lists.append(asked.__name__)
                    before = deepcopy(told)
                    self.assertIsNot(asked(*given), told)
                    told.reverse()
                    told.append(None)
                    self.assertEqual(asked(*given), before)
        self.assertEqual(told_lists, ["totals", "rolls", "pairs", "threes", "others", "all_rings", "order", "kept",
                                      "likeliest", "alone", "twice_rings"])

    def test_lists_that_are_told_by_a_guess_are_new_ones(self):
        guess = guessing.Guess([TWO, (SIX,)])
        guess.hear(6)
        for asked in (guess.left, guess.heard):
            before = asked()
            self.assertIsNot(asked(), before)
            asked().append(9)
            self.assertEqual(asked(), before)


class RefusalsTest(unittest.TestCase):
    def test_each_by_itself(self):
        for asked, given, refusals in REFUSALS:
            asked(*given)
            for refusal, wrong in refusals:
                with self.subTest((asked.__name__, refusal.__name__)):
                    self.assert_refused(refusal, asked, changed(given, wrong))

    def test_the_one_that_is_named_first(self):
        for asked, given, refusals in REFUSALS:
            for at, (refusal, wrong) in enumerate(refusals):
                handed = given
                for later, more in reversed(refusals[at:]):
                    handed = changed(handed, more)
                with self.subTest((asked.__name__, refusal.__name__)):
                    self.assert_refused(refusal, asked, handed)

    def test_of_a_guess(self):
        guess = guessing.Guess([TWO])
        self.assert_refused(Nothing, guess.undo, ())
        self.assert_refused(NoNumber, guess.hear, (121,))
        self.assert_refused(Against, guess.hear, (120,))
        self.assert_refused(NoNumber, guess.share, (1,))

    def test_what_is_refused_is_as_it_was(self):
        wrong = [1, [2], {3: [4]}]
        for asked, given, refusals in REFUSALS:
            for place in range(len(given)):
                handed = changed(given, {place: wrong})
                if asked is not beating.is_ring or place == 0:
                    self.assertRaises(DiceError, asked, *handed)
                self.assertEqual(wrong, [1, [2], {3: [4]}])

    def assert_refused(self, refusal, asked, given):
        with self.assertRaises(DiceError) as caught:
            asked(*given)
        self.assertIs(type(caught.exception), refusal)


def changed(given, wrong):
    return tuple(wrong.get(place, thing) for place, thing in enumerate(given))


if __name__ == "__main__":
    unittest.main()
