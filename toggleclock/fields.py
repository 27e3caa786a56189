"""Fields and stairs, and what is told of them ahead."""

from toggleclock.errors import NoField
from toggleclock.fractions import Fraction
from toggleclock.lines import check_line
from toggleclock.orders import MOST_THINGS, Order

MOST_STAIRS = 3


def check_field(a, b):
    if a < 1 or b < 1 or a * b > MOST_THINGS:
        raise NoField(f"there is no field of {a} rows and {b} columns")


def check_stairs(k):
    if not 1 <= k <= MOST_STAIRS:
        raise NoField(f"there are no stairs of {k} rows")


def cells_of(widths):
    # Row by row, so that a cell's place in the list is the number of its thing.
    found = []
    for row in range(len(widths)):
        found.extend([(row, column) for column in range(widths[row])])
    return found


def stairs_cells(k):
    return cells_of(list(range(k, 0, -1)))


def neither_greater(one, other):
    return one[0] <= other[0] and one[1] <= other[1]


def order_of(cells):
    pairs = []
    for high in range(len(cells)):
        pairs.extend([(low, high) for low in range(high) if neither_greater(cells[low], cells[high])])
    return Order(len(cells), pairs)


def field(a, b):
    check_field(a, b)
    return order_of(cells_of([b] * a))


def stairs(k):
    check_stairs(k)
    return order_of(stairs_cells(k))


def size_mean(a, b):
    check_field(a, b)
    return Fraction(a * b, 2)


def brim_mean(a, b):
    check_field(a, b)
    return Fraction(a * b, a + b)


def flipped(k, line):
    check_line(stairs(k), line)
    cells = stairs_cells(k)
    return tuple([cells.index((cells[thing][1], cells[thing][0])) for thing in line])
