"""Totals of the faces of a roll that are kept."""

from dicesums.basics import need_dice, need_number
from dicesums.dice import rolls
from dicesums.errors import NoSide

SIDES = ("greatest", "least")


def kept(dice, many, side):
    need_dice(dice)
    need_number(many, 1, len(dice))
    need_side(side)
    counts = {}
    for roll in rolls(dice):
        total = kept_total(roll, many, side)
        counts[total] = counts.get(total, 0) + 1
    return sorted(counts.items())


def need_side(thing):
    if not isinstance(thing, str) or thing not in SIDES:
        raise NoSide("the side is neither greatest nor least")


def kept_total(roll, many, side):
    rising = sorted(roll)
    if side == "least":
        return sum(rising[:many])
    return sum(rising[len(rising) - many:])
