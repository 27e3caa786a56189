"""Polynomials: downsets by size, lines by falls, and what they tell of rounds and of nested downsets."""

from toggleclock.downsets import downsets, things_of
from toggleclock.fields import field
from toggleclock.lines import things_next


def by_size(order):
    counts = [0] * (order.size() + 1)
    for bits in downsets(order):
        many = len(things_of(bits))
        counts[many] = counts[many] + 1
    return counts


def added(one, other):
    return [one[place] + other[place] for place in range(len(one))]


def one_fall_more(counts):
    return [0] + counts[:-1]


def by_falls(order):
    # Beginnings of lines with the same things and the same last one go on alike, so they are counted together.
    # Nothing falls behind the -1 that stands for the last thing of the beginning without things.
    nothing = [0] * order.size()
    begun = {(0, -1): [1] + nothing[1:]}
    for place in range(order.size()):
        longer = {}
        for ahead, last in begun:
            counts = begun[(ahead, last)]
            for thing in things_next(order, ahead):
                grown = (ahead | (1 << thing), thing)
                more = one_fall_more(counts) if last > thing else counts
                longer[grown] = added(longer.get(grown, nothing), more)
        begun = longer
    return [sum([counts[falls] for counts in begun.values()]) for falls in range(order.size())]


def folded(poly, m):
    sums = [0] * m
    for place in range(len(poly)):
        sums[place % m] = sums[place % m] + poly[place]
    return sums


def divisors(number):
    return [divisor for divisor in range(1, number + 1) if number % divisor == 0]


def lengths_ahead(a, b):
    sizes = by_size(field(a, b))
    whole = a + b
    sums = folded(sizes, whole)
    shares = {}
    counts = {}
    for share in divisors(whole):
        lesser = sum([shares[other] for other in divisors(share) if other < share])
        shares[share] = sums[share % whole] - lesser
        if shares[share] != 0:
            counts[whole // share] = shares[share]
    return counts


def chosen(x, y):
    if y > x:
        return 0
    ways = 1
    for taken in range(y):
        # Behind each step this is the number of ways to choose one more, so the division leaves no rest.
        ways = ways * (x - taken) // (taken + 1)
    return ways


def nested(order, m):
    many = order.size()
    falls = by_falls(order)
    return sum([falls[k] * chosen(m + many - k, many) for k in range(many)])
