"""The text of dice, and dice read from a text."""

from dicesums.basics import GREATEST_FACE, is_dice, need_dice
from dicesums.errors import NoText


def shown(dice):
    need_dice(dice)
    return " ".join([shown_die(die) for die in dice])


def read(text):
    if not isinstance(text, str):
        raise NoText("no text")
    dice = tuple([read_die(part) for part in text.split(" ")])
    if not is_dice(dice):
        raise NoText("no text of dice: faces with a comma between, dice with a blank between")
    return dice


def shown_die(die):
    return ",".join([str(face) for face in die])


def read_die(text):
    # int would take signs, needless zeros and digits of other scripts, so a face is looked up as it is written.
    faces = dict([(str(face), face) for face in range(GREATEST_FACE + 1)])
    return tuple([faces.get(word) for word in text.split(",")])
