"""Orders of one to nine things, some of them below others."""

from toggleclock.errors import NoCount, NoPair, NoThing

MOST_THINGS = 9


def check_parts(many, pairs):
    if not 1 <= many <= MOST_THINGS:
        raise NoCount(many)
    for low, high in pairs:
        if not 0 <= low < high < many:
            raise NoPair(low, high)


def has(bits, thing):
    return (bits >> thing) & 1 == 1


def sets_below(many, pairs):
    # What is below has the lesser number, so a set is whole before a later one draws on it.
    found = []
    for thing in range(many):
        bits = 0
        for low, high in pairs:
            if high == thing:
                bits = bits | found[low] | (1 << low)
        found.append(bits)
    return tuple(found)


def is_cover(beneath, low, high):
    if not has(beneath[high], low):
        return False
    return not any([has(beneath[high], mid) and has(beneath[mid], low) for mid in range(low + 1, high)])


def cover_pairs(beneath):
    found = []
    for low in range(len(beneath)):
        for high in range(low + 1, len(beneath)):
            if is_cover(beneath, low, high):
                found.append((low, high))
    return tuple(found)


class Order:
    # Only tuples are kept, so that nothing told can lead to a change of the order.
    def __init__(self, many, pairs):
        check_parts(many, pairs)
        self.many = many
        self.beneath = sets_below(many, pairs)
        self.neighbours = cover_pairs(self.beneath)

    def size(self):
        return self.many

    def check_thing(self, thing):
        if not 0 <= thing < self.many:
            raise NoThing(thing)

    def below(self, one, other):
        self.check_thing(one)
        self.check_thing(other)
        return has(self.beneath[other], one)

    def covers(self):
        return list(self.neighbours)

    def just_below(self, thing):
        self.check_thing(thing)
        return [low for low, high in self.neighbours if high == thing]

    def just_above(self, thing):
        self.check_thing(thing)
        return [high for low, high in self.neighbours if low == thing]
