"""The refusals: one class for each, all of them under BeatError."""


class BeatError(ValueError):
    pass


class NoName(BeatError):
    pass


class Twice(BeatError):
    pass


class NoWidth(BeatError):
    pass


class NoWord(BeatError):
    pass


class TooMany(BeatError):
    pass


class Unknown(BeatError):
    pass


class Unlike(BeatError):
    pass


class Shut(BeatError):
    pass


class NoOrder(BeatError):
    pass


class Ring(BeatError):
    pass


class NoLine(BeatError):
    pass


class NoText(BeatError):
    pass
