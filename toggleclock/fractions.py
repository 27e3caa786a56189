"""Fractions in lowest terms, and means."""

from toggleclock.errors import NoNumber


def greatest_divisor(one, other):
    first = abs(one)
    second = abs(other)
    while second > 0:
        rest = first % second
        first = second
        second = rest
    return first


class Fraction:
    def __init__(self, top, bottom=1):
        if bottom == 0:
            raise NoNumber("nothing is divided by 0")
        shared = greatest_divisor(top, bottom)
        # The sign goes to the top.
        divisor = -shared if bottom < 0 else shared
        self.top = top // divisor
        self.bottom = bottom // divisor

    def same(self, other):
        return self.top == other.top and self.bottom == other.bottom

    def shown(self):
        top = self.top
        bottom = self.bottom
        return str(top) if bottom == 1 else f"{top}/{bottom}"


def mean(numbers):
    return Fraction(sum(numbers), len(numbers))
