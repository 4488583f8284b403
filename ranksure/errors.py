"""The refusals, each a class of its own straight under RankError."""


class RankError(ValueError):
    pass


class NoErrands(RankError):
    pass


class NoRanks(RankError):
    pass


class NoComings(RankError):
    pass


class NoErrand(RankError):
    pass


class NoNumber(RankError):
    pass


class TooLong(RankError):
    pass


class NoText(RankError):
    pass
