"""Dice of which some are rolled again: which are best, and the chance ahead of the first roll."""

from dicesums.basics import GREATEST_ASKED, GREATEST_FACE, at_least, counted, fraction, how_many
from dicesums.basics import is_number, need_dice, need_number
from dicesums.dice import rolls
from dicesums.errors import NoRoll, TooMany

MOST_ROLLS = 300


def best_again(dice, roll, total):
    need_dice(dice)
    need_roll(dice, roll)
    need_number(total, 0, GREATEST_ASKED)
    picks = all_picks(dice)
    enough = enough_rolls(picks, roll, total)
    most = max(enough)
    # The picks come in the order in which they are preferred, so the first one of the best is told.
    best = picks[enough.index(most)]
    return (best[0], fraction(most, how_many(dice)))


def again(dice, total):
    need_dice(dice)
    need_number(total, 0, GREATEST_ASKED)
    if how_many(dice) > MOST_ROLLS:
        raise TooMany(f"more than {MOST_ROLLS} rolls")
    picks = all_picks(dice)
    enough = sum([max(enough_rolls(picks, roll, total)) for roll in rolls(dice)])
    return fraction(enough, how_many(dice) ** 2)


def is_roll(dice, thing):
    if not isinstance(thing, tuple) or len(thing) != len(dice):
        return False
    return all([is_face(die, face) for die, face in zip(dice, thing)])


def is_face(die, thing):
    # True is 1 to Python, so a thing is sought among the faces only once it is known to be a number.
    return is_number(thing, 0, GREATEST_FACE) and thing in die


def need_roll(dice, thing):
    if not is_roll(dice, thing):
        raise NoRoll("no roll: a tuple of a face of each die, in their order")


def all_picks(dice):
    return [(places, sums_again(dice, places)) for places in all_places(len(dice))]


def all_places(many):
    found = [()]
    for place in range(many):
        found = found + [places + (place,) for places in found]
    return sorted(found, key=lambda places: (len(places), places))


def sums_again(dice, places):
    # A die that stays counts here as one with nothing but 0, so that all counts are of as many rolls.
    return counted([die if place in places else (0,) * len(die) for place, die in enumerate(dice)])


def enough_rolls(picks, roll, total):
    return [at_least(sums, total - staying(roll, places)) for places, sums in picks]


def staying(roll, places):
    return sum([face for place, face in enumerate(roll) if place not in places])
