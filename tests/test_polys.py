import unittest
from itertools import product
from math import comb, factorial
from random import Random

from helper import (
    FAR, FIELDS, LARGER_PARTS, NO_FIELDS, all_parts, chain, down_numbers, field_parts, in_things, is_whole, plain_great,
    plain_lines, plain_rounds, some_parts, split_count, stairs_parts)
from toggleclock.downsets import downsets
from toggleclock.errors import NoField, TooMany
from toggleclock.fields import field
from toggleclock.lines import how_many_lines, lines
from toggleclock.orders import Order
from toggleclock.polys import by_falls, by_size, chosen, folded, lengths_ahead, nested
from toggleclock.rounds import all_rounds, lengths
from toggleclock.turns import Great

EXAMPLE = Order(4, [(0, 1), (0, 2), (1, 3), (2, 3)])
PARTS = list(some_parts()) + [field_parts(2, 4), stairs_parts(3), (7, [(0, 3), (2, 3), (1, 6)])]


def falls_of(line):
    return sum(1 for first, second in zip(line, line[1:]) if first > second)


def plain_by_falls(many, pairs):
    falls = [falls_of(line) for line in plain_lines(many, pairs)]
    return [falls.count(at) for at in range(many)]


def plain_nested(many, pairs, most):
    """How many nested rows there are of each length from 0 to the most, by the last downset of the row."""
    found = down_numbers(many, pairs)
    within = [[at for at, other in enumerate(found) if other & bits == other] for bits in found]
    ends, told = [1] * len(found), [1]
    for _ in range(most):
        told.append(sum(ends))
        ends = [sum(ends[at] for at in smaller) for smaller in within]
    return told


def counted_rows(many, pairs, length):
    """The same by looking at every row of so many downsets."""
    return sum(1 for row in product(down_numbers(many, pairs), repeat=length)
               if all(one & other == one for one, other in zip(row, row[1:])))


def eulerian(many):
    row = [1]
    for size in range(2, many + 1):
        row = [(at + 1) * (row[at] if at < size - 1 else 0) + (size - at) * (row[at - 1] if at else 0)
               for at in range(size)]
    return row


class BySizeTest(unittest.TestCase):
    def test_against_a_plain_reckoning(self):
        for many, pairs in PARTS:
            sizes = [len(in_things(bits)) for bits in down_numbers(many, pairs)]
            self.assertEqual(by_size(Order(many, pairs)), [sizes.count(size) for size in range(many + 1)])

    def test_written_out(self):
        self.assertEqual(by_size(Order(1, [])), [1, 1])
        self.assertEqual(by_size(EXAMPLE), [1, 1, 2, 1, 1])
        self.assertEqual(by_size(Order(3, [(0, 1)])), [1, 2, 2, 1])
        for many in range(1, 10):
            self.assertEqual(by_size(chain(many)), [1] * (many + 1))
            self.assertEqual(by_size(Order(many, [])), [comb(many, size) for size in range(many + 1)])

    def test_kinds_and_own_lists(self):
        first, second = by_size(EXAMPLE), by_size(EXAMPLE)
        self.assertIs(type(first), list)
        self.assertTrue(all(is_whole(number) for number in first))
        first.clear()
        self.assertEqual(second, [1, 1, 2, 1, 1])
        second[0] = 5
        self.assertEqual(by_size(EXAMPLE), [1, 1, 2, 1, 1])


class ByFallsTest(unittest.TestCase):
    def test_against_all_lines(self):
        for many, pairs in PARTS + list(all_parts(5))[::17]:
            if many < 8:
                self.assertEqual(by_falls(Order(many, pairs)), plain_by_falls(many, pairs))

    def test_listed_lines_of_more_things(self):
        for a, b in ((3, 3), (2, 4), (4, 2), (1, 9), (8, 1)):
            falls = [falls_of(line) for line in lines(field(a, b))]
            self.assertEqual(by_falls(field(a, b)), [falls.count(at) for at in range(a * b)])

    def test_nothing_below_anything(self):
        for many in range(1, 10):
            self.assertEqual(by_falls(Order(many, [])), eulerian(many))
        self.assertEqual(by_falls(Order(9, [])), [1, 502, 14608, 88234, 156190, 88234, 14608, 502, 1])

    def test_many_more_than_1000_lines(self):
        for many, pairs in ((9, []), (9, [(0, 8)]), (9, [(3, 4), (1, 7)]), (8, [(0, 7)])):
            with self.assertRaises(TooMany):
                lines(Order(many, pairs))
            told = by_falls(Order(many, pairs))
            self.assertEqual(len(told), many)
            self.assertEqual(sum(told), split_count(many, pairs))
        self.assertEqual(sum(by_falls(Order(9, []))), factorial(9))

    def test_all_lines_are_counted(self):
        for many, pairs in PARTS:
            told = by_falls(Order(many, pairs))
            self.assertEqual((len(told), sum(told), told[0]), (many, how_many_lines(Order(many, pairs)), 1))

    def test_written_out(self):
        self.assertEqual(by_falls(Order(1, [])), [1])
        self.assertEqual(by_falls(EXAMPLE), [1, 1, 0, 0])
        self.assertEqual(by_falls(Order(3, [(0, 1)])), [1, 2, 0])
        self.assertEqual(by_falls(Order(3, [(1, 2)])), [1, 2, 0])
        self.assertEqual(by_falls(Order(3, [(0, 2)])), [1, 2, 0])
        for many in range(1, 10):
            self.assertEqual(by_falls(chain(many)), [1] + [0] * (many - 1))

    def test_kinds_and_own_lists(self):
        first, second = by_falls(EXAMPLE), by_falls(EXAMPLE)
        self.assertIs(type(first), list)
        self.assertTrue(all(is_whole(number) for number in first))
        first.clear()
        self.assertEqual(second, [1, 1, 0, 0])
        second[0] = 5
        self.assertEqual(by_falls(EXAMPLE), [1, 1, 0, 0])


class FoldedTest(unittest.TestCase):
    def test_none(self):
        self.assertEqual([folded([], 1), folded([], 2), folded([], 1000)], [[0], [0, 0], [0] * 1000])

    def test_one_number(self):
        self.assertEqual([folded([7], 1), folded([7], 3), folded([-7], 2)], [[7], [7, 0, 0], [-7, 0]])

    def test_by_1(self):
        self.assertEqual([folded([1, 2, 3, 4], 1), folded([1, -1], 1)], [[10], [0]])

    def test_written_out(self):
        self.assertEqual(folded([1, 2, 3, 4, 5], 2), [9, 6])
        self.assertEqual(folded([1, 2, 3, 4, 5], 3), [5, 7, 3])
        self.assertEqual(folded([1, 2, 3, 4, 5], 4), [6, 2, 3, 4])

    def test_by_as_many_as_there_are_and_by_more(self):
        self.assertEqual(folded([1, 2, 3], 3), [1, 2, 3])
        self.assertEqual(folded([1, 2, 3], 4), [1, 2, 3, 0])
        self.assertEqual(folded([1, 2, 3], 1000), [1, 2, 3] + [0] * 997)

    def test_many_numbers(self):
        chance = Random(27)
        for many in (10, 99, 999, 1000):
            poly = [chance.choice((0, 1, -5, chance.randrange(-FAR, FAR))) for _ in range(many)]
            for m in (1, 2, 3, 7, 10, 500, 999, 1000):
                self.assertEqual(folded(poly, m), [sum(poly[at::m]) for at in range(m)])

    def test_the_list_handed_in_stays_and_the_told_one_is_the_askers_own(self):
        poly = [1, 2, 3]
        for m in (1, 2, 3, 4):
            first, second = folded(poly, m), folded(poly, m)
            self.assertEqual(poly, [1, 2, 3])
            kept = list(second)
            first[0] = 9
            first.clear()
            self.assertEqual((second, poly), (kept, [1, 2, 3]))
        poly.clear()
        self.assertEqual(second, [1, 2, 3, 0])

    def test_kinds(self):
        for poly in ([], [3], [1, 2, 3, 4, 5]):
            told = folded(poly, 2)
            self.assertIs(type(told), list)
            self.assertTrue(all(is_whole(number) for number in told))


class LengthsAheadTest(unittest.TestCase):
    def test_the_lengths_of_all_rounds(self):
        for a, b in FIELDS:
            order = field(a, b)
            self.assertEqual(lengths_ahead(a, b), lengths(all_rounds(Great(order), downsets(order))))

    def test_the_lengths_of_all_rounds_reckoned_plainly(self):
        for a, b in FIELDS:
            many, pairs = field_parts(a, b)
            rounds = plain_rounds(lambda bits: plain_great(many, pairs, bits), down_numbers(many, pairs))
            found = [len(circle) for circle in rounds]
            self.assertEqual(lengths_ahead(a, b), {length: found.count(length) for length in found})

    def test_written_out(self):
        self.assertEqual(lengths_ahead(1, 1), {2: 1})
        self.assertEqual(lengths_ahead(2, 2), {4: 1, 2: 1})
        self.assertEqual(lengths_ahead(2, 3), {5: 2})
        self.assertEqual(lengths_ahead(3, 3), {6: 3, 2: 1})
        self.assertEqual(lengths_ahead(1, 9), {10: 1})

    def test_no_length_of_which_there_is_none(self):
        for a, b in FIELDS:
            self.assertTrue(all(many > 0 for many in lengths_ahead(a, b).values()))

    def test_what_is_no_field(self):
        for a, b in NO_FIELDS:
            with self.subTest(a=a, b=b), self.assertRaises(NoField):
                lengths_ahead(a, b)

    def test_kinds_and_own_dicts(self):
        first, second = lengths_ahead(2, 2), lengths_ahead(2, 2)
        self.assertIs(type(first), dict)
        self.assertTrue(all(is_whole(length) and is_whole(many) for length, many in first.items()))
        first.clear()
        self.assertEqual(second, {4: 1, 2: 1})
        second[4] = 7
        self.assertEqual(lengths_ahead(2, 2), {4: 1, 2: 1})


class ChosenTest(unittest.TestCase):
    def test_all_up_to_a_hundred(self):
        for x in range(101):
            for y in range(103):
                self.assertEqual(chosen(x, y), comb(x, y))

    def test_edges(self):
        self.assertEqual([chosen(0, 0), chosen(0, 1), chosen(1, 0), chosen(1, 1), chosen(1, 2)], [1, 0, 1, 1, 0])
        self.assertEqual([chosen(100, 0), chosen(100, 100), chosen(100, 101), chosen(99, 100)], [1, 1, 0, 0])
        self.assertEqual([chosen(100, FAR), chosen(0, FAR)], [0, 0])
        self.assertEqual(chosen(100, 50), 100891344545564193334812497256)

    def test_kinds(self):
        for x, y in ((0, 0), (5, 2), (2, 5), (100, 50)):
            self.assertTrue(is_whole(chosen(x, y)))


class NestedTest(unittest.TestCase):
    def test_against_a_plain_reckoning(self):
        for many, pairs in PARTS:
            order = Order(many, pairs)
            self.assertEqual([nested(order, m) for m in range(10)], plain_nested(many, pairs, 9))

    def test_by_every_row_of_downsets(self):
        for many, pairs in list(all_parts(3)) + LARGER_PARTS[:2]:
            for m in range(5):
                self.assertEqual(nested(Order(many, pairs), m), counted_rows(many, pairs, m))

    def test_the_sum_over_falls(self):
        for many, pairs in PARTS:
            order, falls = Order(many, pairs), by_falls(Order(many, pairs))
            for m in range(10):
                expected = sum(number * comb(m + many - k, many) for k, number in enumerate(falls))
                self.assertEqual(nested(order, m), expected)

    def test_lengths_0_and_1(self):
        for many, pairs in PARTS:
            order = Order(many, pairs)
            self.assertEqual((nested(order, 0), nested(order, 1)), (1, len(down_numbers(many, pairs))))

    def test_written_out(self):
        self.assertEqual([nested(Order(1, []), m) for m in range(4)], [1, 2, 3, 4])
        self.assertEqual([nested(EXAMPLE, m) for m in range(4)], [1, 6, 20, 50])
        for m in range(10):
            self.assertEqual(nested(Order(9, []), m), (m + 1) ** 9)
            self.assertEqual(nested(chain(9), m), comb(m + 9, 9))

    def test_somewhat_beyond(self):
        self.assertEqual([nested(Order(9, []), 10), nested(Order(2, []), 20)], [11 ** 9, 441])

    def test_kinds(self):
        for m in range(10):
            self.assertTrue(is_whole(nested(EXAMPLE, m)))


class AgainTest(unittest.TestCase):
    def test_the_same_again_whatever_was_asked_between(self):
        chance = Random(29)
        asks = [(told, (order,)) for told in (by_size, by_falls) for order in (EXAMPLE, chain(3), Order(3, []))]
        asks += [(nested, (order, m)) for order in (EXAMPLE, Order(3, [])) for m in (0, 1, 5)]
        asks += [(lengths_ahead, (2, 2)), (lengths_ahead, (2, 3)), (chosen, (5, 2)), (folded, ([1, 2, 3], 2))]
        before = [told(*handed) for told, handed in asks]
        for at in [chance.randrange(len(asks)) for _ in range(200)]:
            told, handed = asks[at]
            self.assertEqual(told(*handed), before[at])


if __name__ == "__main__":
    unittest.main()
