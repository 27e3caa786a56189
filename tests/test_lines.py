import unittest
from itertools import permutations, product
from math import factorial

from helper import (
    FAR, all_parts, chain, is_whole, pairs_below, part_order, plain_lines, some_lines, some_parts, split_count)
from toggleclock.errors import NoLine, NoPlace, TooMany
from toggleclock.lines import how_many_lines, is_line, line_at, lines, number_of
from toggleclock.orders import Order

EXAMPLE_PAIRS = [(0, 1), (0, 2), (1, 3), (2, 3)]
EXAMPLE = Order(4, EXAMPLE_PAIRS)
EXAMPLE_LINES = [(0, 1, 2, 3), (0, 2, 1, 3)]

# How many lines there are, and an order that has so many.
NEAR_1000 = [
    (999, 9, [(0, 1), (0, 2), (1, 5), (1, 6), (2, 6), (3, 6), (3, 8), (4, 5), (6, 7)]),
    (1000, 8, [(0, 5), (0, 6), (0, 7), (1, 6), (1, 7), (2, 5), (2, 6), (3, 4), (3, 6), (3, 7)]),
    (1000, 9, [(0, 2), (0, 5), (0, 6), (0, 8), (1, 4), (3, 4), (4, 5), (6, 7), (7, 8)]),
    (1001, 9, [(0, 7), (1, 2), (2, 3), (2, 6), (3, 5), (4, 5), (4, 8), (7, 8)]),
    (1002, 9, [(0, 6), (0, 7), (1, 2), (1, 5), (2, 4), (3, 5), (4, 5), (4, 8), (6, 8)]),
]


def few_parts():
    """Orders of up to six things."""
    return [(many, pairs) for many, pairs in some_parts() if many <= 6] + list(all_parts(5))[::13]


def rows_that_are_none(many, line):
    """Tuples near a line that have not each thing once."""
    yield ()
    yield line[1:]
    yield line[:-1]
    yield line + (line[0],)
    yield line + (many,)
    yield line + line
    for place in range(many):
        for wrong in (-1, -many, many, many + 1, 9, FAR, -FAR):
            yield line[:place] + (wrong,) + line[place + 1:]
        if many > 1:
            yield line[:place] + (line[place - 1],) + line[place + 1:]


class IsLineTest(unittest.TestCase):
    def test_all_rows_of_the_things(self):
        for many, pairs in few_parts():
            order, expected = Order(many, pairs), set(plain_lines(many, pairs))
            for row in permutations(range(many)):
                self.assertIs(is_line(order, row), row in expected)

    def test_all_short_rows_of_few_numbers(self):
        order = Order(3, [(0, 2)])
        for length in range(5):
            for row in product(range(-1, 4), repeat=length):
                self.assertIs(is_line(order, row), row in ((0, 1, 2), (0, 2, 1), (1, 0, 2)))

    def test_the_rising_row_is_always_one(self):
        for many, pairs in some_parts():
            self.assertIs(is_line(Order(many, pairs), tuple(range(many))), True)

    def test_neighbours_exchanged(self):
        self.assertIs(is_line(EXAMPLE, (0, 1, 2, 3)), True)
        self.assertIs(is_line(EXAMPLE, (1, 0, 2, 3)), False)
        self.assertIs(is_line(EXAMPLE, (0, 2, 1, 3)), True)
        self.assertIs(is_line(EXAMPLE, (0, 1, 3, 2)), False)
        for many in range(2, 10):
            row = tuple(range(many))
            for place in range(many - 1):
                exchanged = row[:place] + (place + 1, place) + row[place + 2:]
                self.assertIs(is_line(chain(many), exchanged), False)
                self.assertIs(is_line(Order(many, []), exchanged), True)

    def test_ahead_of_one_that_is_not_just_below(self):
        order = Order(4, [(0, 1), (1, 3)])
        self.assertIs(is_line(order, (2, 0, 1, 3)), True)
        self.assertIs(is_line(order, (3, 2, 0, 1)), False)
        self.assertIs(is_line(order, (1, 3, 2, 0)), False)

    def test_not_each_thing_once(self):
        for many, pairs in some_parts():
            order = Order(many, pairs)
            for line in some_lines(many, pairs, 3)[:3]:
                for row in rows_that_are_none(many, line):
                    self.assertIs(is_line(order, row), False)

    def test_long_tuples(self):
        self.assertIs(is_line(EXAMPLE, (0, 1, 2, 3) * 250), False)
        self.assertIs(is_line(EXAMPLE, (0,) * 1000), False)

    def test_one_thing(self):
        order = Order(1, [])
        self.assertIs(is_line(order, (0,)), True)
        for row in ((), (1,), (-1,), (0, 0), (0, 1)):
            self.assertIs(is_line(order, row), False)


class CountedTest(unittest.TestCase):
    def test_against_all_rows(self):
        for many, pairs in few_parts():
            self.assertEqual(how_many_lines(Order(many, pairs)), len(plain_lines(many, pairs)))

    def test_nothing_below_anything(self):
        for many in range(1, 10):
            self.assertEqual(how_many_lines(Order(many, [])), factorial(many))
        self.assertEqual(how_many_lines(Order(9, [])), 362880)

    def test_chains(self):
        for many in range(1, 10):
            self.assertEqual(how_many_lines(chain(many)), 1)

    def test_known_counts(self):
        self.assertEqual(how_many_lines(EXAMPLE), 2)
        self.assertEqual(how_many_lines(Order(9, [(0, 8)])), 181440)
        along, across = [(one, one + 1) for one in (0, 1, 3, 4, 6, 7)], [(one, one + 3) for one in range(6)]
        self.assertEqual(how_many_lines(Order(9, along + across)), 42)
        for count, many, pairs in NEAR_1000:
            self.assertEqual(how_many_lines(Order(many, pairs)), count)

    def test_by_the_splitting(self):
        for many, pairs in some_parts():
            self.assertEqual(how_many_lines(Order(many, pairs)), split_count(many, pairs))

    def test_by_the_splitting_at_the_least_things_alone(self):
        for many, pairs in some_parts():
            below = pairs_below(many, pairs)
            least = [thing for thing in range(many) if not any((low, thing) in below for low in range(many))]
            parts = [part_order(many, pairs, set(range(many)) - {thing}) for thing in least]
            found = sum(1 if part is None else how_many_lines(part) for part in parts)
            self.assertEqual(how_many_lines(Order(many, pairs)), found)

    def test_kinds(self):
        for order in (EXAMPLE, Order(1, []), Order(9, []), chain(9)):
            self.assertTrue(is_whole(how_many_lines(order)))


class ListedTest(unittest.TestCase):
    def test_sorted_against_all_rows(self):
        for many, pairs in few_parts():
            self.assertEqual(lines(Order(many, pairs)), plain_lines(many, pairs))

    def test_the_example(self):
        self.assertEqual(lines(EXAMPLE), EXAMPLE_LINES)
        self.assertEqual(lines(Order(1, [])), [(0,)])
        self.assertEqual(lines(Order(2, [])), [(0, 1), (1, 0)])
        self.assertEqual(lines(chain(9)), [(0, 1, 2, 3, 4, 5, 6, 7, 8)])

    def test_just_up_to_1000_are_listed(self):
        for count, many, pairs in NEAR_1000:
            order = Order(many, pairs)
            if count > 1000:
                with self.assertRaises(TooMany):
                    lines(order)
            else:
                found = lines(order)
                self.assertEqual((len(found), len(set(found))), (count, count))
                self.assertEqual(found, sorted(found))
                self.assertTrue(all(is_line(order, line) for line in found))
        self.assertEqual(lines(Order(*NEAR_1000[1][1:])), plain_lines(*NEAR_1000[1][1:]))

    def test_many_more_are_refused(self):
        for order in (Order(7, []), Order(8, []), Order(9, []), Order(9, [(0, 8)])):
            with self.assertRaises(TooMany):
                lines(order)
        self.assertEqual(len(lines(Order(6, []))), 720)

    def test_kinds(self):
        found = lines(Order(4, [(1, 3)]))
        self.assertIs(type(found), list)
        for line in found:
            self.assertIs(type(line), tuple)
            self.assertTrue(all(is_whole(thing) for thing in line))

    def test_told_lists_are_the_askers_own(self):
        first, second = lines(EXAMPLE), lines(EXAMPLE)
        self.assertIsNot(first, second)
        first.clear()
        second.append((3, 2, 1, 0))
        self.assertEqual(lines(EXAMPLE), EXAMPLE_LINES)
        self.assertEqual(how_many_lines(EXAMPLE), 2)
        self.assertEqual(number_of(EXAMPLE, (0, 2, 1, 3)), 1)
        self.assertEqual(line_at(EXAMPLE, 1), (0, 2, 1, 3))
        self.assertEqual(second, EXAMPLE_LINES + [(3, 2, 1, 0)])

    def test_the_same_again_whatever_was_asked_between(self):
        def answers():
            return [lines(EXAMPLE), how_many_lines(EXAMPLE), number_of(EXAMPLE, (0, 2, 1, 3)), line_at(EXAMPLE, 0),
                    is_line(EXAMPLE, (0, 1, 3, 2))]
        before = answers()
        other = Order(4, [])
        lines(other), how_many_lines(other), number_of(other, (3, 2, 1, 0)), line_at(other, 23)
        with self.assertRaises(NoLine):
            number_of(EXAMPLE, (3, 2, 1, 0))
        self.assertEqual(answers(), before)
        self.assertEqual(EXAMPLE.covers(), EXAMPLE_PAIRS)


class NumberedTest(unittest.TestCase):
    def there_and_back(self, order, line, number):
        self.assertEqual(number_of(order, line), number)
        self.assertEqual(line_at(order, number), line)

    def test_each_line_of_few_things(self):
        for many, pairs in few_parts():
            if many < 6:
                for number, line in enumerate(plain_lines(many, pairs)):
                    self.there_and_back(Order(many, pairs), line, number)

    def test_each_listed_line_of_more_things(self):
        for many, pairs in ((6, [(0, 3), (1, 3), (1, 4), (2, 5)]), (8, [(low, low + 2) for low in range(6)])):
            order = Order(many, pairs)
            for number, line in enumerate(lines(order)):
                self.there_and_back(order, line, number)

    def test_more_than_1000_lines(self):
        for many, pairs in ((7, []), (7, [(0, 6), (2, 3)]), (8, [(0, 4), (1, 4), (3, 7), (4, 6)])):
            order, expected = Order(many, pairs), plain_lines(many, pairs)
            self.assertGreater(len(expected), 1000)
            for number in [0, 1, 2] + list(range(3, len(expected), 97)) + [len(expected) - 2, len(expected) - 1]:
                self.there_and_back(order, expected[number], number)

    def test_nine_things_with_nothing_below_anything(self):
        order = Order(9, [])
        self.there_and_back(order, (0, 1, 2, 3, 4, 5, 6, 7, 8), 0)
        self.there_and_back(order, (0, 1, 2, 3, 4, 5, 6, 8, 7), 1)
        self.there_and_back(order, (1, 0, 2, 3, 4, 5, 6, 7, 8), 40320)
        self.there_and_back(order, (4, 0, 1, 2, 3, 5, 6, 7, 8), 4 * 40320)
        self.there_and_back(order, (8, 7, 6, 5, 4, 3, 2, 1, 0), 362879)
        self.there_and_back(order, (8, 7, 6, 5, 4, 3, 2, 0, 1), 362878)

    def test_leading_back_all_over_large_orders(self):
        for many, pairs in some_parts():
            order, count = Order(many, pairs), split_count(many, pairs)
            for number in range(0, count, max(1, count // 10)):
                line = line_at(order, number)
                self.assertIs(is_line(order, line), True)
                self.assertEqual(number_of(order, line), number)

    def test_the_rising_row_is_the_first(self):
        for many, pairs in some_parts():
            self.there_and_back(Order(many, pairs), tuple(range(many)), 0)

    def test_kinds(self):
        for number in (0, 1):
            line = line_at(EXAMPLE, number)
            self.assertIs(type(line), tuple)
            self.assertTrue(all(is_whole(thing) for thing in line))
            self.assertTrue(is_whole(number_of(EXAMPLE, line)))

    def test_what_is_no_number_of_a_line(self):
        for many, pairs in some_parts():
            order, count = Order(many, pairs), split_count(many, pairs)
            for number in (-1, -2, -count, count, count + 1, 2 * count, FAR, -FAR):
                with self.assertRaises(NoPlace) as caught:
                    line_at(order, number)
                self.assertEqual(caught.exception.place, number)

    def test_what_is_no_line(self):
        for many, pairs in some_parts():
            order = Order(many, pairs)
            for row in rows_that_are_none(many, tuple(range(many))):
                with self.assertRaises(NoLine):
                    number_of(order, row)
            for low, high in order.covers():
                row = [thing for thing in range(many) if thing not in (low, high)]
                with self.assertRaises(NoLine):
                    number_of(order, tuple(row + [high, low]))


if __name__ == "__main__":
    unittest.main()
