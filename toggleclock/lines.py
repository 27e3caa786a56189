"""The lines of an order: rows of all its things, each behind all below it."""

from toggleclock.downsets import downsets, holds_all, is_door
from toggleclock.errors import NoLine, NoPlace, TooMany

MOST_LISTED = 1000


def is_line(order, line):
    if sorted(line) != list(range(order.size())):
        return False
    ahead = 0
    for thing in line:
        if not holds_all(ahead, order.beneath[thing]):
            return False
        ahead = ahead | (1 << thing)
    return True


def check_line(order, line):
    if not is_line(order, line):
        raise NoLine(f"{line!r} is no line of the order")


def things_next(order, ahead):
    # What stands ahead in a line is a downset, so this is asked of downsets alone and not checked again.
    return [thing for thing in range(order.size()) if is_door(order, ahead, thing)]


def ways_on(order):
    # From each downset to how many lines begin with its things, these in one same order.
    # A downset grown by a thing has a greater number, so from the greatest on all that is drawn on is there.
    ways = {}
    for ahead in reversed(downsets(order)):
        grown = [ahead | (1 << thing) for thing in things_next(order, ahead)]
        ways[ahead] = sum([ways[bits] for bits in grown]) if len(grown) > 0 else 1
    return ways


def how_many_lines(order):
    return ways_on(order)[0]


def lines(order):
    count = how_many_lines(order)
    if count > MOST_LISTED:
        raise TooMany(f"there are {count} lines, and at most {MOST_LISTED} are listed")
    # Each beginning goes on to a line, so there are never more beginnings than lines.
    begun = [((), 0)]
    for place in range(order.size()):
        longer = []
        for row, ahead in begun:
            longer.extend([(row + (thing,), ahead | (1 << thing)) for thing in things_next(order, ahead)])
        begun = longer
    return [row for row, ahead in begun]


def number_of(order, line):
    check_line(order, line)
    ways = ways_on(order)
    number = 0
    ahead = 0
    for thing in line:
        lesser = [other for other in things_next(order, ahead) if other < thing]
        number = number + sum([ways[ahead | (1 << other)] for other in lesser])
        ahead = ahead | (1 << thing)
    return number


def line_at(order, number):
    ways = ways_on(order)
    if not 0 <= number < ways[0]:
        raise NoPlace(number)
    row = []
    ahead = 0
    left = number
    while len(row) < order.size():
        choices = things_next(order, ahead)
        while left >= ways[ahead | (1 << choices[0])]:
            left = left - ways[ahead | (1 << choices[0])]
            choices = choices[1:]
        row.append(choices[0])
        ahead = ahead | (1 << choices[0])
    return tuple(row)
