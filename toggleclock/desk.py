"""A desk that is told rows and answers them: it keeps an order, a downset of it and a line of it."""

from toggleclock.downsets import brim, downset_at, how_many, place_of, things_of
from toggleclock.errors import NoRow, NothingDone
from toggleclock.fields import field, stairs
from toggleclock.fractions import mean
from toggleclock.lines import how_many_lines, line_at, number_of
from toggleclock.orders import Order
from toggleclock.polys import by_falls, by_size
from toggleclock.rounds import round_of
from toggleclock.texts import FIGURES, order_text, read_order
from toggleclock.toggles import swapped, toggled
from toggleclock.turns import Above, Below, Great, Slide

MOST_FIGURES = 6
ORDER_START = "order "


class Spot:
    # What a desk keeps, and the answer to the row that led there. It is never changed, so undoing is going back to it.
    def __init__(self, order, bits, line, answer):
        self.order = order
        self.bits = bits
        self.line = line
        self.answer = answer


def figures(things):
    return "".join([str(thing) for thing in things])


def with_blanks(values):
    return " ".join([str(value) for value in values])


def with_order(order):
    return Spot(order, 0, line_at(order, 0), order_text(order))


def with_downset(spot, bits):
    return Spot(spot.order, bits, spot.line, "-" if bits == 0 else figures(things_of(bits)))


def with_line(spot, line):
    return Spot(spot.order, spot.bits, line, figures(line))


def at_stairs(spot, k):
    return with_order(stairs(k))


def at_down(spot, place):
    return with_downset(spot, downset_at(spot.order, place))


def at_toggle(spot, thing):
    return with_downset(spot, toggled(spot.order, spot.bits, thing))


def at_line(spot, number):
    return with_line(spot, line_at(spot.order, number))


def at_swap(spot, place):
    return with_line(spot, swapped(spot.order, spot.line, place))


def at_great(spot):
    return with_downset(spot, Great(spot.order).done(spot.bits))


def at_ungreat(spot):
    return with_downset(spot, Great(spot.order).back(spot.bits))


def at_slide(spot):
    return with_line(spot, Slide(spot.order).done(spot.line))


def at_unslide(spot):
    return with_line(spot, Slide(spot.order).back(spot.line))


def at_above(spot):
    return with_line(spot, Above(spot.order).done(spot.line))


def at_below(spot):
    return with_line(spot, Below(spot.order).done(spot.line))


def great_round(spot):
    return round_of(Great(spot.order), spot.bits)


def mean_size(sets):
    return mean([len(things_of(bits)) for bits in sets]).shown()


def told_order(spot):
    return order_text(spot.order)


def told_counts(spot):
    return with_blanks([how_many(spot.order), how_many_lines(spot.order)])


def told_where(spot):
    return with_blanks([place_of(spot.order, spot.bits), number_of(spot.order, spot.line)])


def told_round(spot):
    return str(len(great_round(spot)))


def told_mean(spot):
    circle = great_round(spot)
    return with_blanks([mean_size(circle), mean_size([brim(spot.order, bits) for bits in circle])])


def told_sizes(spot):
    return with_blanks(by_size(spot.order))


def told_falls(spot):
    return with_blanks(by_falls(spot.order))


NUMBER_STEPS = {"stairs": at_stairs, "down": at_down, "toggle": at_toggle, "line": at_line, "swap": at_swap}
PLAIN_STEPS = {"great": at_great, "ungreat": at_ungreat, "slide": at_slide, "unslide": at_unslide,
               "above": at_above, "below": at_below}
ASKED = {"show": told_order, "counts": told_counts, "where": told_where, "round": told_round,
         "mean": told_mean, "sizes": told_sizes, "falls": told_falls}


def is_number(word):
    if not 1 <= len(word) <= MOST_FIGURES or (word[0] == "0" and word != "0"):
        return False
    return all([sign in FIGURES for sign in word])


def step_from(spot, row):
    if row.startswith(ORDER_START):
        return with_order(read_order(row[len(ORDER_START):]))
    words = row.split(" ")
    name = words[0]
    numbers = [int(word) for word in words[1:] if is_number(word)]
    if len(numbers) != len(words) - 1:
        raise NoRow(row)
    if name in PLAIN_STEPS and len(numbers) == 0:
        return PLAIN_STEPS[name](spot)
    if name in NUMBER_STEPS and len(numbers) == 1:
        return NUMBER_STEPS[name](spot, numbers[0])
    if name == "field" and len(numbers) == 2:
        return with_order(field(numbers[0], numbers[1]))
    raise NoRow(row)


class Desk:
    def __init__(self):
        self.spot = with_order(Order(1, []))
        self.earlier = []

    def told(self, row):
        if row == "undo":
            return self.undone()
        if row in ASKED:
            return ASKED[row](self.spot)
        # Whatever is refused is refused here, before anything is kept.
        step = step_from(self.spot, row)
        self.earlier.append(self.spot)
        self.spot = step
        return step.answer

    def undone(self):
        if len(self.earlier) == 0:
            raise NothingDone("nothing is left to undo")
        self.spot = self.earlier.pop()
        return "ready"
