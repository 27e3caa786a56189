"""What the document says, reckoned anew in the plainest way, and orders to try it on."""

from itertools import combinations

from toggleclock.orders import Order


def number_pairs(many):
    return list(combinations(range(many), 2))


def all_parts(many):
    """Every list of pairs that an order of so many things can be made of, none twice."""
    pairs = number_pairs(many)
    for chosen in range(2 ** len(pairs)):
        yield many, [pair for at, pair in enumerate(pairs) if chosen >> at & 1]


LARGER_PARTS = [
    (4, [(0, 1), (0, 2), (1, 3), (2, 3)]),
    (5, [(0, 1), (1, 2), (2, 3), (3, 4)]),
    (6, [(0, 1), (0, 2), (1, 3), (1, 4), (2, 4), (2, 5)]),
    (6, [(0, 3), (1, 3), (1, 4), (2, 4), (2, 5), (0, 5)]),
    (7, [(0, 6), (1, 6), (2, 5), (3, 5), (5, 6)]),
    (8, [(0, 2), (1, 2), (2, 3), (3, 4), (3, 5), (4, 6), (5, 7), (0, 7)]),
    (9, []),
    (9, [(low, low + 1) for low in range(8)]),
    (9, [(0, 8)]),
    (9, [(0, 1), (1, 2), (3, 4), (4, 5), (6, 7), (7, 8), (0, 3), (3, 6), (1, 4), (4, 7), (2, 5), (5, 8)]),
]


def some_parts():
    for many in (1, 2, 3, 4):
        yield from all_parts(many)
    yield from LARGER_PARTS


def pairs_below(many, pairs):
    """All (low, high) with low below high, by rows of pairs."""
    found = set(pairs)
    while True:
        longer = {(low, end) for low, high in found for start, end in found if high == start}
        if longer <= found:
            return found
        found = found | longer


def covers_of(many, pairs):
    below = pairs_below(many, pairs)
    return sorted(
        (low, high) for low, high in below
        if not any((low, mid) in below and (mid, high) in below for mid in range(many)))


def is_down(many, below, things):
    return all(low in things for low, high in below if high in things)


def sets_of_things(many):
    for bits in range(2 ** many):
        yield bits, {thing for thing in range(many) if bits // 2 ** thing % 2 == 1}


def down_numbers(many, pairs):
    below = pairs_below(many, pairs)
    return [bits for bits, things in sets_of_things(many) if is_down(many, below, things)]


def as_number(things):
    return sum(2 ** thing for thing in set(things))


def part_order(many, pairs, kept):
    """The order of the kept things alone, numbered anew in their order; None if there are none."""
    kept = sorted(kept)
    if not kept:
        return None
    below = pairs_below(many, pairs)
    inner = [(kept.index(low), kept.index(high)) for low, high in below if low in kept and high in kept]
    return Order(len(kept), inner)


def is_whole(value):
    return type(value) is int
