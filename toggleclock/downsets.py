"""Sets of things as whole numbers, and the downsets of an order."""

from toggleclock.errors import NoDownset, NoPlace
from toggleclock.orders import has


def things_of(bits):
    return [thing for thing in range(bits.bit_length()) if has(bits, thing)]


def set_of(things):
    bits = 0
    for thing in things:
        bits = bits | (1 << thing)
    return bits


def holds_all(bits, others):
    return bits & others == others


def is_downset(order, bits):
    if bits < 0 or bits >> order.size() > 0:
        return False
    return all([holds_all(bits, order.beneath[thing]) for thing in things_of(bits)])


def check_downset(order, bits):
    if not is_downset(order, bits):
        raise NoDownset(bits)


def brim(order, bits):
    check_downset(order, bits)
    covered = 0
    for thing in things_of(bits):
        covered = covered | order.beneath[thing]
    return bits & ~covered


def is_door(order, bits, thing):
    return not has(bits, thing) and holds_all(bits, order.beneath[thing])


def doors(order, bits):
    check_downset(order, bits)
    return set_of([thing for thing in range(order.size()) if is_door(order, bits, thing)])


def downsets(order):
    return [bits for bits in range(1 << order.size()) if is_downset(order, bits)]


def how_many(order):
    return len(downsets(order))


def place_of(order, bits):
    check_downset(order, bits)
    return downsets(order).index(bits)


def downset_at(order, place):
    found = downsets(order)
    if not 0 <= place < len(found):
        raise NoPlace(place)
    return found[place]
