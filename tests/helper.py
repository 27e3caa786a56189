"""What the document says, reckoned anew in the plainest way, and orders to try it on."""

from itertools import combinations, permutations
from random import Random

from toggleclock.orders import Order

FAR = 10 ** 59


def number_pairs(many):
    return list(combinations(range(many), 2))


def all_parts(many):
    """Every list of pairs that an order of so many things can be made of, none twice."""
    pairs = number_pairs(many)
    for chosen in range(2 ** len(pairs)):
        yield many, [pair for at, pair in enumerate(pairs) if chosen >> at & 1]


LARGER_PARTS = [
    (4, [(0, 1), (0, 2), (1, 3), (2, 3)]),
    (5, [(0, 1), (1, 2), (2, 3), (3, 4)]),
    (6, [(0, 1), (0, 2), (1, 3), (1, 4), (2, 4), (2, 5)]),
    (6, [(0, 3), (1, 3), (1, 4), (2, 4), (2, 5), (0, 5)]),
    (7, [(0, 6), (1, 6), (2, 5), (3, 5), (5, 6)]),
    (8, [(0, 2), (1, 2), (2, 3), (3, 4), (3, 5), (4, 6), (5, 7), (0, 7)]),
    (9, []),
    (9, [(low, low + 1) for low in range(8)]),
    (9, [(0, 8)]),
    (9, [(0, 1), (1, 2), (3, 4), (4, 5), (6, 7), (7, 8), (0, 3), (3, 6), (1, 4), (4, 7), (2, 5), (5, 8)]),
]


def some_parts():
    for many in (1, 2, 3, 4):
        yield from all_parts(many)
    yield from LARGER_PARTS


def pairs_below(many, pairs):
    """All (low, high) with low below high, by rows of pairs."""
    found = set(pairs)
    while True:
        longer = {(low, end) for low, high in found for start, end in found if high == start}
        if longer <= found:
            return found
        found = found | longer


def covers_of(many, pairs):
    below = pairs_below(many, pairs)
    return sorted(
        (low, high) for low, high in below
        if not any((low, mid) in below and (mid, high) in below for mid in range(many)))


def is_down(many, below, things):
    return all(low in things for low, high in below if high in things)


def sets_of_things(many):
    for bits in range(2 ** many):
        yield bits, {thing for thing in range(many) if bits // 2 ** thing % 2 == 1}


def down_numbers(many, pairs):
    below = pairs_below(many, pairs)
    return [bits for bits, things in sets_of_things(many) if is_down(many, below, things)]


def as_number(things):
    return sum(2 ** thing for thing in set(things))


def part_order(many, pairs, kept):
    """The order of the kept things alone, numbered anew in their order; None if there are none."""
    kept = sorted(kept)
    if not kept:
        return None
    below = pairs_below(many, pairs)
    inner = [(kept.index(low), kept.index(high)) for low, high in below if low in kept and high in kept]
    return Order(len(kept), inner)


def is_whole(value):
    return type(value) is int


def chain(many):
    return Order(many, [(low, low + 1) for low in range(many - 1)])


def all_things(many):
    return 2 ** many - 1


def behind_all_below(below, row):
    """Whether no thing of the row stands ahead of one that is below it."""
    return not any((row[later], row[at]) in below for at in range(len(row)) for later in range(at + 1, len(row)))


def plain_lines(many, pairs):
    """All lines, sorted, picked from all rows of the things; slow beyond eight things."""
    below = pairs_below(many, pairs)
    return [row for row in permutations(range(many)) if behind_all_below(below, row)]


def line_by_wish(many, below, wish):
    """The line that takes at each place the first of the wished row that may stand there."""
    left, line = list(wish), ()
    while left:
        thing = next(one for one in left if not any((other, one) in below for other in left))
        left.remove(thing)
        line += (thing,)
    return line


def some_lines(many, pairs, most):
    """Lines of the order, none twice: all of up to six things, else as many as there are tries, or fewer."""
    if many <= 6:
        return plain_lines(many, pairs)
    below, chance = pairs_below(many, pairs), Random(many)
    wishes = [list(range(many)), list(range(many))[::-1]] + [chance.sample(range(many), many) for _ in range(most - 2)]
    return sorted({line_by_wish(many, below, wish) for wish in wishes})


def split_count(many, pairs):
    """How many lines there are, by the splitting that the document tells."""
    below = pairs_below(many, pairs)
    counts = {frozenset(): 1}

    def count(kept):
        if kept not in counts:
            least = [thing for thing in kept if not any((other, thing) in below for other in kept)]
            counts[kept] = sum(count(kept - {thing}) for thing in least)
        return counts[kept]

    return count(frozenset(range(many)))


def part_covers(many, pairs, kept):
    """The covers of the order of the kept things alone, each thing under its old number."""
    below = {(low, high) for low, high in pairs_below(many, pairs) if low in kept and high in kept}
    return {(low, high) for low, high in below
            if not any((low, mid) in below and (mid, high) in below for mid in kept)}


def by_number(numbers):
    return tuple(sorted(numbers, key=lambda thing: numbers[thing]))


def plain_slid(many, pairs, row):
    """A row slid by the gap, as a line of the order of its things alone."""
    covers = part_covers(many, pairs, row)
    numbers = {thing: place for place, thing in enumerate(row)}
    gap = row[0]
    while [high for low, high in covers if low == gap]:
        giver = min((high for low, high in covers if low == gap), key=lambda thing: numbers[thing])
        numbers[gap] = numbers[giver]
        gap = giver
    numbers[gap] = len(row)
    return by_number(numbers)


def plain_slid_back(many, pairs, row):
    covers = part_covers(many, pairs, row)
    numbers = {thing: place for place, thing in enumerate(row)}
    gap = row[-1]
    while [low for low, high in covers if high == gap]:
        giver = max((low for low, high in covers if high == gap), key=lambda thing: numbers[thing])
        numbers[gap] = numbers[giver]
        gap = giver
    numbers[gap] = -1
    return by_number(numbers)


def plain_above(many, pairs, line):
    for length in range(many, 1, -1):
        line = plain_slid(many, pairs, line[:length]) + line[length:]
    return line


def plain_below(many, pairs, line):
    for length in range(many, 1, -1):
        line = line[:many - length] + plain_slid_back(many, pairs, line[many - length:])
    return line


def in_things(bits):
    return {thing for thing in range(9) if bits >> thing & 1}


def brim_things(below, inside):
    return {thing for thing in inside if not any((thing, other) in below for other in inside)}


def plain_great(many, pairs, bits):
    below, inside = pairs_below(many, pairs), in_things(bits)
    doors = {thing for thing in range(many) if thing not in inside
             and all(low in inside for low, high in below if high == thing)}
    return as_number(doors | {low for low, high in below if high in doors})


def plain_great_back(many, pairs, bits):
    below, inside = pairs_below(many, pairs), in_things(bits)
    left = brim_things(below, inside)
    above = {high for low, high in below if low in left}
    return as_number(set(range(many)) - left - above)


def plain_rounds(turned, ones):
    """All rounds of the list by a function that turns, each begun with what stands first in the list."""
    left, found = list(ones), []
    while left:
        circle = [left[0]]
        while turned(circle[-1]) != left[0]:
            circle.append(turned(circle[-1]))
        found.append(circle)
        left = [one for one in left if one not in circle]
    return found


FIELDS = [(a, b) for a in range(1, 10) for b in range(1, 10) if a * b <= 9]
NO_FIELDS = [(0, 0), (0, 1), (1, 0), (0, 9), (9, 0), (-1, 1), (1, -1), (-1, -1), (-3, -3), (-9, 1), (1, 10), (10, 1),
             (2, 5), (5, 2), (4, 3), (3, 4), (9, 9), (FAR, 1), (1, FAR), (FAR, FAR), (-FAR, 1), (1, -FAR),
             (-FAR, -FAR), (0, FAR), (FAR, 0)]
STAIRS = [1, 2, 3]
NO_STAIRS = [0, 4, 5, 9, 10, -1, -2, -3, -FAR, FAR]


def parts_of_cells(cells):
    return len(cells), [
        (low, high) for high in range(len(cells)) for low in range(len(cells))
        if low != high and cells[low][0] <= cells[high][0] and cells[low][1] <= cells[high][1]]


def field_parts(a, b):
    return parts_of_cells([(thing // b, thing % b) for thing in range(a * b)])


def stairs_cells(k):
    return [(row, column) for row in range(k) for column in range(k) if row + column < k]


def stairs_parts(k):
    return parts_of_cells(stairs_cells(k))
