"""The refusals of the program, each right under ToggleError."""


class ToggleError(ValueError):
    pass


# Python keeps what an error is made with as the error's own words,
# so the classes with values only have to give them their names.


class NoCount(ToggleError):
    def __init__(self, number):
        self.number = number


class NoPair(ToggleError):
    def __init__(self, low, high):
        self.low = low
        self.high = high


class NoThing(ToggleError):
    def __init__(self, thing):
        self.thing = thing


class NoText(ToggleError):
    def __init__(self, at):
        self.at = at


class NoDownset(ToggleError):
    def __init__(self, bits):
        self.bits = bits


class NoPlace(ToggleError):
    def __init__(self, place):
        self.place = place


class NoRow(ToggleError):
    def __init__(self, row):
        self.row = row


class NoLine(ToggleError):
    pass


class TooMany(ToggleError):
    pass


class NoNumber(ToggleError):
    pass


class NoField(ToggleError):
    pass


class NothingDone(ToggleError):
    pass
