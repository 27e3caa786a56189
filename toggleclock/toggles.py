"""Toggles of downsets, exchanges in lines, and words of them."""

from toggleclock.downsets import brim, check_downset, doors
from toggleclock.errors import NoPlace
from toggleclock.lines import check_line
from toggleclock.orders import has


def check_things(order, word):
    for thing in word:
        order.check_thing(thing)


def check_places(order, word):
    for place in word:
        if not 0 <= place <= order.size() - 2:
            raise NoPlace(place)


def after_toggles(order, bits, word):
    for thing in word:
        if has(brim(order, bits) | doors(order, bits), thing):
            bits = bits ^ (1 << thing)
    return bits


def after_exchanges(order, line, word):
    row = list(line)
    for place in word:
        first = row[place]
        second = row[place + 1]
        if not order.below(first, second):
            row[place] = second
            row[place + 1] = first
    return tuple(row)


def walked(order, bits, word):
    check_downset(order, bits)
    check_things(order, word)
    return after_toggles(order, bits, word)


def toggled(order, bits, thing):
    return walked(order, bits, [thing])


def walker(order, word):
    # A copy, as the list handed in may be changed before the walker is asked.
    kept = tuple(word)
    check_things(order, kept)

    def walk(bits):
        check_downset(order, bits)
        return after_toggles(order, bits, kept)

    return walk


def led(order, line, word):
    check_line(order, line)
    check_places(order, word)
    return after_exchanges(order, line, word)


def swapped(order, line, place):
    return led(order, line, [place])


def leader(order, word):
    kept = tuple(word)
    check_places(order, kept)

    def lead(line):
        check_line(order, line)
        return after_exchanges(order, line, kept)

    return lead
