import unittest
from fractions import Fraction as Exact

from helper import (
    FAR, FIELDS, NO_FIELDS, NO_STAIRS, STAIRS, brim_things, covers_of, down_numbers, field_parts, in_things, is_whole,
    pairs_below, plain_great, plain_lines, plain_rounds, stairs_cells, stairs_parts)
from toggleclock.downsets import brim, downsets, things_of
from toggleclock.errors import NoField, NoLine
from toggleclock.fields import brim_mean, field, flipped, size_mean, stairs
from toggleclock.fractions import Fraction, mean
from toggleclock.lines import is_line, lines
from toggleclock.orders import Order
from toggleclock.rounds import all_rounds
from toggleclock.texts import order_text
from toggleclock.turns import Great, Slide

STAIRS_NO_LINES = [(1, 0, 2, 3, 4, 5), (0, 1, 2, 3, 4), (0, 1, 2, 3, 4, 5, 6), (0, 1, 1, 3, 4, 5), (), (0,),
                   (0, 1, 2, 5, 3, 4), (0, 2, 1, 3, 4, 5), (0, 1, 4, 3, 2, 5), (0, 1, 2, 3, 4, 6),
                   (0, 1, 2, 3, 4, FAR), (-1, 0, 1, 2, 3, 4)]


def exact(fraction):
    return Exact(fraction.top, fraction.bottom)


def turned_often(turn, one, times):
    for _ in range(times):
        one = turn.done(one)
    return one


class OrdersOfCells(unittest.TestCase):
    """What the tests of fields and of stairs ask alike."""

    def hold_parts(self, order, parts):
        many, pairs = parts
        self.assertIs(type(order), Order)
        self.assertEqual(order.size(), many)
        for one in range(many):
            for other in range(many):
                self.assertIs(order.below(one, other), (one, other) in pairs)
        self.assertEqual(order.covers(), covers_of(many, pairs))


class FieldTest(OrdersOfCells):
    def test_there_are_twenty_three(self):
        self.assertEqual(len(FIELDS), 23)
        self.assertEqual({field(a, b).size() for a, b in FIELDS}, {1, 2, 3, 4, 5, 6, 7, 8, 9})

    def test_each(self):
        for a, b in FIELDS:
            self.hold_parts(field(a, b), field_parts(a, b))

    def test_written_out(self):
        self.assertEqual(order_text(field(1, 1)), "1")
        self.assertEqual(order_text(field(2, 2)), "4 0<1 0<2 1<3 2<3")
        self.assertEqual(order_text(field(2, 3)), "6 0<1 0<3 1<2 1<4 2<5 3<4 4<5")
        self.assertEqual(order_text(field(3, 2)), "6 0<1 0<2 1<3 2<3 2<4 3<5 4<5")
        self.assertEqual(order_text(field(1, 9)), order_text(field(9, 1)))

    def test_what_is_no_field(self):
        for a, b in NO_FIELDS:
            for told in (field, size_mean, brim_mean):
                with self.subTest(told=told, a=a, b=b), self.assertRaises(NoField):
                    told(a, b)

    def test_every_other_pair_of_small_numbers_is_refused(self):
        refused = []
        for a in range(-3, 13):
            for b in range(-3, 13):
                try:
                    field(a, b)
                except NoField:
                    refused.append((a, b))
        self.assertEqual(len(refused), 16 * 16 - 23)
        self.assertFalse(set(refused) & set(FIELDS))


class StairsTest(OrdersOfCells):
    def test_each(self):
        for k in STAIRS:
            self.hold_parts(stairs(k), stairs_parts(k))

    def test_written_out(self):
        self.assertEqual(order_text(stairs(1)), "1")
        self.assertEqual(order_text(stairs(2)), "3 0<1 0<2")
        self.assertEqual(order_text(stairs(3)), "6 0<1 0<3 1<2 1<4 3<4 3<5")

    def test_what_is_no_stairs(self):
        for k in NO_STAIRS:
            with self.subTest(k=k), self.assertRaises(NoField):
                stairs(k)


class MeansTest(unittest.TestCase):
    def test_told_ahead(self):
        for a, b in FIELDS:
            self.assertEqual(exact(size_mean(a, b)), Exact(a * b, 2))
            self.assertEqual(exact(brim_mean(a, b)), Exact(a * b, a + b))

    def test_over_each_round_reckoned_plainly(self):
        for a, b in FIELDS:
            many, pairs = field_parts(a, b)
            below = pairs_below(many, pairs)
            for circle in plain_rounds(lambda bits: plain_great(many, pairs, bits), down_numbers(many, pairs)):
                sets = [in_things(bits) for bits in circle]
                self.assertEqual(exact(size_mean(a, b)), Exact(sum(len(one) for one in sets), len(sets)))
                brims = [brim_things(below, one) for one in sets]
                self.assertEqual(exact(brim_mean(a, b)), Exact(sum(len(one) for one in brims), len(brims)))

    def test_over_each_round_by_the_program(self):
        for a, b in FIELDS:
            order = field(a, b)
            for circle in all_rounds(Great(order), downsets(order)):
                sizes = mean([len(things_of(bits)) for bits in circle])
                brims = mean([len(things_of(brim(order, bits))) for bits in circle])
                self.assertIs(sizes.same(size_mean(a, b)), True)
                self.assertIs(brims.same(brim_mean(a, b)), True)

    def test_shown(self):
        self.assertEqual([size_mean(1, 1).shown(), brim_mean(1, 1).shown()], ["1/2", "1/2"])
        self.assertEqual([size_mean(2, 3).shown(), brim_mean(2, 3).shown()], ["3", "6/5"])
        self.assertEqual([size_mean(3, 3).shown(), brim_mean(3, 3).shown()], ["9/2", "3/2"])
        self.assertEqual([size_mean(2, 2).shown(), brim_mean(2, 2).shown()], ["2", "1"])

    def test_kinds(self):
        for a, b in FIELDS:
            for told in (size_mean(a, b), brim_mean(a, b)):
                self.assertIs(type(told), Fraction)
                self.assertTrue(is_whole(told.top) and is_whole(told.bottom))


class ComesBackTest(unittest.TestCase):
    def test_the_great_turn_behind_as_many_turns_as_rows_and_columns(self):
        for a, b in FIELDS:
            order = field(a, b)
            for bits in downsets(order):
                self.assertEqual(turned_often(Great(order), bits, a + b), bits)

    def test_sliding_behind_as_many_as_things(self):
        for a, b in FIELDS:
            order = field(a, b)
            for line in lines(order):
                self.assertEqual(turned_often(Slide(order), line, a * b), line)

    def test_sliding_on_stairs_exchanges_rows_and_columns(self):
        for k in STAIRS:
            order = stairs(k)
            for line in lines(order):
                self.assertEqual(turned_often(Slide(order), line, order.size()), flipped(k, line))


class FlippedTest(unittest.TestCase):
    def test_every_line_of_the_stairs(self):
        for k in STAIRS:
            cells = stairs_cells(k)
            other = {cells.index((row, column)): cells.index((column, row)) for row, column in cells}
            for line in plain_lines(*stairs_parts(k)):
                self.assertEqual(flipped(k, line), tuple(other[thing] for thing in line))

    def test_twice(self):
        for k in STAIRS:
            for line in plain_lines(*stairs_parts(k)):
                self.assertIs(is_line(stairs(k), flipped(k, line)), True)
                self.assertEqual(flipped(k, flipped(k, line)), line)

    def test_written_out(self):
        self.assertEqual(flipped(1, (0,)), (0,))
        self.assertEqual([flipped(2, (0, 1, 2)), flipped(2, (0, 2, 1))], [(0, 2, 1), (0, 1, 2)])
        self.assertEqual(flipped(3, (0, 1, 2, 3, 4, 5)), (0, 3, 5, 1, 4, 2))

    def test_what_is_no_line(self):
        for line in STAIRS_NO_LINES:
            with self.subTest(line=line), self.assertRaises(NoLine):
                flipped(3, line)
        for k, line in ((1, ()), (1, (1,)), (1, (0, 1)), (2, (0,)), (2, (1, 0, 2)), (2, (0, 1, 2, 3))):
            with self.subTest(k=k, line=line), self.assertRaises(NoLine):
                flipped(k, line)

    def test_no_stairs_go_ahead_of_no_line(self):
        for k in NO_STAIRS:
            for line in ((), (0,), (0, 1, 2), (1, 0), (FAR,), tuple(range(10))):
                with self.subTest(k=k, line=line), self.assertRaises(NoField):
                    flipped(k, line)

    def test_kinds(self):
        for line in plain_lines(*stairs_parts(3)):
            told = flipped(3, line)
            self.assertIs(type(told), tuple)
            self.assertTrue(all(is_whole(thing) for thing in told))


class AgainTest(unittest.TestCase):
    def test_told_lists_changed_change_nothing(self):
        for order in (field(2, 2), stairs(2)):
            order.covers().clear()
            order.just_above(0).append(7)
        self.assertEqual(field(2, 2).covers(), [(0, 1), (0, 2), (1, 3), (2, 3)])
        self.assertEqual(stairs(2).covers(), [(0, 1), (0, 2)])

    def test_the_same_again(self):
        first = [(order_text(field(a, b)), size_mean(a, b).shown(), brim_mean(a, b).shown()) for a, b in FIELDS]
        second = [(order_text(field(a, b)), size_mean(a, b).shown(), brim_mean(a, b).shown()) for a, b in FIELDS[::-1]]
        self.assertEqual(first, second[::-1])


if __name__ == "__main__":
    unittest.main()
