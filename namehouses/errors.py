"""The refusals. Each stands straight under HouseError, so that taking one never takes another."""


class HouseError(ValueError):
    pass


class NoShape(HouseError):
    pass


class NoName(HouseError):
    pass


class NoText(HouseError):
    def __init__(self, line):
        HouseError.__init__(self, f"line {line} can't be read")
        self.line = line


class NoClock(HouseError):
    pass


class NoTime(HouseError):
    pass


class NoHolder(HouseError):
    pass


class NoLease(HouseError):
    pass


class Ended(HouseError):
    pass


class TooMany(HouseError):
    pass


class Wait(HouseError):
    def __init__(self, by):
        HouseError.__init__(self, f"the reading is too low by {by}")
        self.by = by


class Empty(HouseError):
    pass


class NoNote(HouseError):
    pass


class Fallen(HouseError):
    pass


class NoRow(HouseError):
    pass


class Backward(HouseError):
    def __init__(self, now):
        HouseError.__init__(self, f"the time is {now} already")
        self.now = now
