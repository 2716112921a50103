"""The refusals: one class for each, all of them under RailError and none under another one."""


class RailError(ValueError):
    pass


class NoErrand(RailError):
    pass


class NoRow(RailError):
    pass


class NoReason(RailError):
    pass


class NoYard(RailError):
    pass


class NoRing(RailError):
    pass


class NoText(RailError):
    pass


class NoWord(RailError):
    pass


class NoBox(RailError):
    pass
