"""The refusals of the program, one class each."""


class ChordError(ValueError):
    pass


class TooMany(ChordError):
    pass


class NoTie(ChordError):
    pass


class NoSplit(ChordError):
    pass


class NoName(ChordError):
    pass


class BadNote(ChordError):
    pass
