"""The refusals of the program."""


class WardError(ValueError):
    pass


class NoRoom(WardError):
    pass


class NoCut(WardError):
    pass


class NoPoint(WardError):
    pass


class NoTurn(WardError):
    pass


class TooMany(WardError):
    pass
