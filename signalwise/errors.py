"""The refusals of the program, each of a class of its own."""


class WiseError(ValueError):
    pass


class NoText(WiseError):
    pass


class Twice(WiseError):
    pass


class NoName(WiseError):
    pass


class Unsettled(WiseError):
    pass


class TooMany(WiseError):
    pass


class NoRow(WiseError):
    pass


class NoProgram(WiseError):
    pass
