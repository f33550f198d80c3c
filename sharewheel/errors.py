"""The refusals: one error class for each, all straight under WheelError."""


class WheelError(ValueError):
    pass


class NoRatio(WheelError):
    pass


class NoLine(WheelError):
    pass


class NoName(WheelError):
    pass


class Taken(WheelError):
    pass


class NoClass(WheelError):
    pass


class NoPlace(WheelError):
    pass


class NoShare(WheelError):
    pass


class NoCurb(WheelError):
    pass


class NoLength(WheelError):
    pass


class TooEarly(WheelError):
    pass


class NoneReady(WheelError):
    pass


class NoText(WheelError):
    pass


class BadRow(WheelError):
    def __init__(self, place):
        self.place = place


class Short(WheelError):
    def __init__(self, missing):
        self.missing = missing


class TooMuch(WheelError):
    def __init__(self, asked, given):
        self.asked = asked
        self.given = given


class Curbed(WheelError):
    def __init__(self, name):
        self.name = name
