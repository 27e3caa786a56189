"""The turns: the great turn of downsets, the sliding of lines, and two ways of turning a line over."""

from toggleclock.downsets import brim, doors, set_of, things_of
from toggleclock.lines import check_line
from toggleclock.orders import has


def great_turn(order, bits):
    entered = doors(order, bits)
    turned = entered
    for thing in things_of(entered):
        turned = turned | order.beneath[thing]
    return turned


def great_turn_back(order, bits):
    left = brim(order, bits)
    return set_of([thing for thing in range(order.size())
                   if not has(left, thing) and order.beneath[thing] & left == 0])


def places_within(row, things):
    return [row.index(thing) for thing in things if thing in row]


# A row here is the beginning or the end of a line. Such a part has with two things all between them,
# so what is just above or just below in the order of these things alone is so in the whole order too.


def slid(order, row):
    moved = list(row)
    gap = row[0]
    higher = places_within(row, order.just_above(gap))
    while len(higher) > 0:
        place = min(higher)
        moved[place] = gap
        gap = row[place]
        higher = places_within(row, order.just_above(gap))
    return tuple(moved[1:] + [gap])


def slid_back(order, row):
    moved = list(row)
    gap = row[-1]
    lower = places_within(row, order.just_below(gap))
    while len(lower) > 0:
        place = max(lower)
        moved[place] = gap
        gap = row[place]
        lower = places_within(row, order.just_below(gap))
    return tuple([gap] + moved[:-1])


class Turn:
    def __init__(self, order):
        self.order = order


class Great(Turn):
    def done(self, one):
        return great_turn(self.order, one)

    def back(self, one):
        return great_turn_back(self.order, one)

    def word(self):
        # What is below has the lesser number, so falling numbers put each thing ahead of all below it.
        return list(range(self.order.size() - 1, -1, -1))


class Slide(Turn):
    def done(self, one):
        check_line(self.order, one)
        return slid(self.order, one)

    def back(self, one):
        check_line(self.order, one)
        return slid_back(self.order, one)

    def word(self):
        return list(range(self.order.size() - 1))


class Above(Turn):
    def done(self, one):
        check_line(self.order, one)
        row = one
        for end in range(len(one), 1, -1):
            row = slid(self.order, row[:end]) + row[end:]
        return row

    def back(self, one):
        return self.done(one)

    def word(self):
        found = []
        for end in range(self.order.size() - 1, 0, -1):
            found.extend(list(range(end)))
        return found


class Below(Turn):
    def done(self, one):
        check_line(self.order, one)
        row = one
        for start in range(len(one) - 1):
            row = row[:start] + slid_back(self.order, row[start:])
        return row

    def back(self, one):
        return self.done(one)

    def word(self):
        last = self.order.size() - 2
        found = []
        for start in range(last + 1):
            found.extend(list(range(last, start - 1, -1)))
        return found
