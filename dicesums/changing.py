"""Dice made of others: shifted, stretched, mirrored, and both in one."""

from dicesums.basics import GREATEST_FACE, is_die, need_die, need_number
from dicesums.errors import TooMany

MOST_TIMES = 9


def shifted(die, by):
    need_die(die)
    need_number(by, -GREATEST_FACE, GREATEST_FACE)
    return with_faces([face + by for face in die])


def stretched(die, times):
    need_die(die)
    need_number(times, 1, MOST_TIMES)
    return with_faces([face * times for face in die])


def mirrored(die):
    need_die(die)
    return tuple([die[0] + die[-1] - face for face in reversed(die)])


def both(one, other):
    need_die(one)
    need_die(other)
    sums = []
    for face in one:
        sums.extend([face + added for added in other])
    made = tuple(sorted(sums))
    if not is_die(made):
        raise TooMany("both in one are no die: more than 8 faces, or a face greater than 30")
    return made


def with_faces(faces):
    for face in faces:
        need_number(face, 0, GREATEST_FACE)
    return tuple(faces)
