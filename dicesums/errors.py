"""The refusals of the program, one class for each."""


class DiceError(ValueError):
    pass


class NoDie(DiceError):
    pass


class NoDice(DiceError):
    pass


class NoTotals(DiceError):
    pass


class NoNumber(DiceError):
    pass


class TooMany(DiceError):
    pass


class NoText(DiceError):
    pass


class NoSide(DiceError):
    pass


class NoRoll(DiceError):
    pass


class NoChoices(DiceError):
    pass


class Against(DiceError):
    pass


class Nothing(DiceError):
    pass
