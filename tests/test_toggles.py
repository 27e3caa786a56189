import unittest
from itertools import product

from helper import (
    FAR, as_number, chain, covers_of, down_numbers, is_whole, pairs_below, plain_lines, some_lines, some_parts)
from toggleclock.errors import NoDownset, NoLine, NoPlace, NoThing
from toggleclock.orders import Order
from toggleclock.toggles import leader, led, swapped, toggled, walked, walker

EXAMPLE = Order(4, [(0, 1), (0, 2), (1, 3), (2, 3)])


def small_parts():
    return [(many, pairs) for many, pairs in some_parts() if many <= 6]


def plain_toggled(below, bits, thing):
    """In or out, where what comes of it is a downset."""
    inside = {one for one in range(9) if bits >> one & 1} ^ {thing}
    fine = all(low in inside for low, high in below if high in inside)
    return as_number(inside) if fine else bits


def plain_swapped(below, line, place):
    row = list(line)
    row[place:place + 2] = [row[place + 1], row[place]]
    return line if (line[place], line[place + 1]) in below else tuple(row)


class Refusals(unittest.TestCase):
    def refused(self, kind, value, asked, *handed):
        """Refused with this kind, having this value (None where the kind has none)."""
        with self.assertRaises(kind) as caught:
            asked(*handed)
        names = {NoDownset: "bits", NoThing: "thing", NoPlace: "place"}
        if kind in names:
            self.assertEqual(getattr(caught.exception, names[kind]), value)


class ToggledTest(Refusals):
    def test_each_thing_of_each_downset(self):
        for many, pairs in some_parts():
            order, below = Order(many, pairs), pairs_below(many, pairs)
            for bits in down_numbers(many, pairs)[::1 if many < 9 else 7]:
                for thing in range(many):
                    self.assertEqual(toggled(order, bits, thing), plain_toggled(below, bits, thing))

    def test_the_example(self):
        self.assertEqual([toggled(EXAMPLE, 7, thing) for thing in range(4)], [7, 5, 3, 15])
        self.assertEqual([toggled(EXAMPLE, 0, thing) for thing in range(4)], [1, 0, 0, 0])
        self.assertEqual([toggled(EXAMPLE, 15, thing) for thing in range(4)], [15, 15, 15, 7])
        self.assertEqual([toggled(EXAMPLE, 3, thing) for thing in range(4)], [3, 1, 7, 3])

    def test_one_thing(self):
        order = Order(1, [])
        self.assertEqual([toggled(order, 0, 0), toggled(order, 1, 0)], [1, 0])

    def test_twice_is_nothing(self):
        for many, pairs in some_parts():
            order = Order(many, pairs)
            for bits in down_numbers(many, pairs)[::1 if many < 9 else 7]:
                for thing in range(many):
                    self.assertEqual(toggled(order, toggled(order, bits, thing), thing), bits)

    def test_at_two_things_in_either_order(self):
        for many, pairs in small_parts():
            order, covers = Order(many, pairs), covers_of(many, pairs)
            for one, other in product(range(many), repeat=2):
                if (one, other) not in covers and (other, one) not in covers:
                    for bits in down_numbers(many, pairs):
                        first = toggled(order, toggled(order, bits, one), other)
                        self.assertEqual(toggled(order, toggled(order, bits, other), one), first)

    def test_at_neighbours_the_order_matters(self):
        self.assertEqual(toggled(chain(2), toggled(chain(2), 0, 0), 1), 3)
        self.assertEqual(toggled(chain(2), toggled(chain(2), 0, 1), 0), 1)

    def test_refusals(self):
        for bits in (2, 6, 14, 16, -1, FAR, -FAR):
            self.refused(NoDownset, bits, toggled, EXAMPLE, bits, 0)
            self.refused(NoDownset, bits, toggled, EXAMPLE, bits, 4)
            self.refused(NoDownset, bits, toggled, EXAMPLE, bits, -1)
        for thing in (-1, -4, 4, 5, 9, FAR, -FAR):
            self.refused(NoThing, thing, toggled, EXAMPLE, 0, thing)
            self.refused(NoThing, thing, toggled, EXAMPLE, 15, thing)
        self.refused(NoThing, 1, toggled, Order(1, []), 0, 1)

    def test_kinds(self):
        for bits, thing in product((0, 1, 15), range(4)):
            self.assertTrue(is_whole(toggled(EXAMPLE, bits, thing)))


class WalkedTest(Refusals):
    def test_words_of_the_example(self):
        self.assertEqual(walked(EXAMPLE, 0, [0, 1, 2, 3]), 15)
        self.assertEqual(walked(EXAMPLE, 0, [3, 2, 1, 0]), 1)
        self.assertEqual(walked(EXAMPLE, 1, [1, 2, 1]), 5)
        self.assertEqual(walked(EXAMPLE, 7, [0, 0, 3, 3, 3, 1]), 15)

    def test_all_short_words(self):
        below = pairs_below(4, EXAMPLE.covers())
        for length in range(4):
            for word in product(range(4), repeat=length):
                for bits in (0, 1, 3, 5, 7, 15):
                    expected = bits
                    for thing in word:
                        expected = plain_toggled(below, expected, thing)
                    self.assertEqual(walked(EXAMPLE, bits, list(word)), expected)
                    self.assertEqual(walker(EXAMPLE, list(word))(bits), expected)

    def test_the_word_without_anything(self):
        for many, pairs in small_parts():
            order = Order(many, pairs)
            for bits in down_numbers(many, pairs):
                self.assertEqual(walked(order, bits, []), bits)
                self.assertEqual(walker(order, [])(bits), bits)

    def test_long_words(self):
        self.assertEqual(walked(EXAMPLE, 0, [0] * 1000), 0)
        self.assertEqual(walked(EXAMPLE, 0, [0] * 999), 1)
        self.assertEqual(walker(EXAMPLE, [0] * 999)(0), 1)

    def test_refusals(self):
        self.refused(NoThing, 4, walked, EXAMPLE, 0, [0, 4, -1])
        self.refused(NoThing, -1, walked, EXAMPLE, 0, [0, 1, -1, 4])
        self.refused(NoThing, FAR, walked, EXAMPLE, 0, [FAR, 0])
        self.refused(NoThing, 9, walked, EXAMPLE, 15, [0, 1, 2, 3, 9])
        for bits in (2, 16, -1, FAR):
            self.refused(NoDownset, bits, walked, EXAMPLE, bits, [])
            self.refused(NoDownset, bits, walked, EXAMPLE, bits, [0])
            self.refused(NoDownset, bits, walked, EXAMPLE, bits, [0, 4])

    def test_the_walker_refuses_the_word_when_made(self):
        self.refused(NoThing, 4, walker, EXAMPLE, [0, 4, -1])
        self.refused(NoThing, -1, walker, EXAMPLE, [3, -1, 4])
        self.refused(NoThing, FAR, walker, EXAMPLE, [FAR])

    def test_the_walker_refuses_the_downset_when_asked(self):
        for word in ([], [0, 1, 2]):
            walk = walker(EXAMPLE, word)
            for bits in (2, 6, 16, -1, FAR, -FAR):
                self.refused(NoDownset, bits, walk, bits)
            self.assertEqual(walk(0), walked(EXAMPLE, 0, word))

    def test_the_word_stays_and_changed_behind_changes_nothing(self):
        word = [0, 1, 1, 2]
        walk = walker(EXAMPLE, word)
        self.assertEqual((walk(0), walked(EXAMPLE, 0, word)), (5, 5))
        self.assertEqual(word, [0, 1, 1, 2])
        word.append(1)
        self.assertEqual((walk(0), walked(EXAMPLE, 0, word)), (5, 7))
        word[0] = 9
        self.assertEqual(walk(0), 5)
        word.clear()
        self.assertEqual((walk(0), walk(0)), (5, 5))

    def test_walkers_do_not_mingle(self):
        one, other, third = walker(EXAMPLE, [0]), walker(EXAMPLE, [0, 1]), walker(chain(2), [0, 1])
        self.assertEqual([one(0), other(0), third(0), one(0), third(3)], [1, 3, 3, 1, 1])

    def test_kinds(self):
        self.assertTrue(is_whole(walked(EXAMPLE, 0, [])))
        self.assertTrue(is_whole(walker(EXAMPLE, [0])(1)))


class SwappedTest(Refusals):
    def test_each_place_of_each_line(self):
        for many, pairs in some_parts():
            order, below = Order(many, pairs), pairs_below(many, pairs)
            for line in some_lines(many, pairs, 30):
                for place in range(many - 1):
                    self.assertEqual(swapped(order, line, place), plain_swapped(below, line, place))

    def test_the_example(self):
        line = (0, 1, 2, 3)
        self.assertEqual([swapped(EXAMPLE, line, place) for place in range(3)], [line, (0, 2, 1, 3), line])
        self.assertEqual(swapped(EXAMPLE, (0, 2, 1, 3), 1), line)

    def test_what_comes_is_a_line(self):
        for many, pairs in small_parts():
            order, fine = Order(many, pairs), plain_lines(many, pairs)
            for line in fine[:50]:
                for place in range(many - 1):
                    self.assertIn(swapped(order, line, place), fine)

    def test_twice_is_nothing(self):
        for many, pairs in some_parts():
            order = Order(many, pairs)
            for line in some_lines(many, pairs, 30):
                for place in range(many - 1):
                    self.assertEqual(swapped(order, swapped(order, line, place), place), line)

    def test_at_two_places_in_either_order(self):
        for many, pairs in some_parts():
            order = Order(many, pairs)
            for one, other in product(range(many - 1), repeat=2):
                if abs(one - other) != 1:
                    for line in some_lines(many, pairs, 10):
                        first = swapped(order, swapped(order, line, one), other)
                        self.assertEqual(swapped(order, swapped(order, line, other), one), first)

    def test_at_neighbours_the_order_matters(self):
        order = Order(3, [])
        self.assertEqual(swapped(order, swapped(order, (0, 1, 2), 0), 1), (1, 2, 0))
        self.assertEqual(swapped(order, swapped(order, (0, 1, 2), 1), 0), (2, 0, 1))

    def test_no_places(self):
        for many in range(1, 10):
            for place in (-1, -many, many - 1, many, 9, FAR, -FAR):
                for order in (Order(many, []), chain(many)):
                    self.refused(NoPlace, place, swapped, order, tuple(range(many)), place)
        self.refused(NoPlace, 0, swapped, Order(1, []), (0,), 0)

    def test_no_lines(self):
        for row in ((1, 0, 2, 3), (0, 1, 2), (0, 1, 2, 3, 4), (0, 1, 1, 3), (0, 1, 2, 4), (-1, 0, 1, 2), (), (FAR,)):
            for place in (0, 2, -1, 3, FAR):
                self.refused(NoLine, None, swapped, EXAMPLE, row, place)

    def test_kinds(self):
        for place in range(3):
            told = swapped(EXAMPLE, (0, 1, 2, 3), place)
            self.assertIs(type(told), tuple)
            self.assertTrue(all(is_whole(thing) for thing in told))


class LedTest(Refusals):
    def test_words_of_the_example(self):
        self.assertEqual(led(EXAMPLE, (0, 1, 2, 3), [0, 1, 2]), (0, 2, 1, 3))
        self.assertEqual(led(EXAMPLE, (0, 1, 2, 3), [1, 1]), (0, 1, 2, 3))
        self.assertEqual(led(Order(4, []), (0, 1, 2, 3), [0, 1, 2]), (1, 2, 3, 0))
        self.assertEqual(led(Order(4, []), (0, 1, 2, 3), [2, 1, 0]), (3, 0, 1, 2))

    def test_all_short_words(self):
        order, below = Order(4, [(0, 1), (2, 3)]), {(0, 1), (2, 3)}
        for length in range(5):
            for word in product(range(3), repeat=length):
                for line in plain_lines(4, [(0, 1), (2, 3)]):
                    expected = line
                    for place in word:
                        expected = plain_swapped(below, expected, place)
                    self.assertEqual(led(order, line, list(word)), expected)
                    self.assertEqual(leader(order, list(word))(line), expected)

    def test_the_word_without_anything(self):
        for many, pairs in small_parts():
            order = Order(many, pairs)
            for line in some_lines(many, pairs, 5):
                self.assertEqual(led(order, line, []), line)
                self.assertEqual(leader(order, [])(line), line)

    def test_long_words(self):
        self.assertEqual(led(EXAMPLE, (0, 1, 2, 3), [1] * 1000), (0, 1, 2, 3))
        self.assertEqual(leader(EXAMPLE, [1] * 999)((0, 1, 2, 3)), (0, 2, 1, 3))

    def test_refusals(self):
        line = (0, 1, 2, 3)
        self.refused(NoPlace, 3, led, EXAMPLE, line, [0, 3, -1])
        self.refused(NoPlace, -1, led, EXAMPLE, line, [0, 1, -1, 3])
        self.refused(NoPlace, FAR, led, EXAMPLE, line, [FAR, 0])
        self.refused(NoPlace, 0, led, Order(1, []), (0,), [0])
        for row in ((0, 1, 3, 2), (0, 1, 2), (), (0, 0, 1, 2), (0, 1, 2, FAR)):
            self.refused(NoLine, None, led, EXAMPLE, row, [])
            self.refused(NoLine, None, led, EXAMPLE, row, [0])
            self.refused(NoLine, None, led, EXAMPLE, row, [0, 3])

    def test_the_leader_refuses_the_word_when_made(self):
        self.refused(NoPlace, 3, leader, EXAMPLE, [0, 3, -1])
        self.refused(NoPlace, -1, leader, EXAMPLE, [2, -1, 3])
        self.refused(NoPlace, FAR, leader, EXAMPLE, [FAR])
        self.refused(NoPlace, 0, leader, Order(1, []), [0])

    def test_the_leader_refuses_the_line_when_asked(self):
        for word in ([], [0, 1, 2]):
            lead = leader(EXAMPLE, word)
            for row in ((0, 1, 3, 2), (0, 1, 2), (), (0, 0, 1, 2), (0, 1, 2, FAR)):
                self.refused(NoLine, None, lead, row)
            self.assertEqual(lead((0, 2, 1, 3)), led(EXAMPLE, (0, 2, 1, 3), word))

    def test_the_word_stays_and_changed_behind_changes_nothing(self):
        order, word, line = Order(4, []), [0, 1, 1, 2], (0, 1, 2, 3)
        lead = leader(order, word)
        self.assertEqual((lead(line), led(order, line, word)), ((1, 0, 3, 2), (1, 0, 3, 2)))
        self.assertEqual(word, [0, 1, 1, 2])
        word.append(2)
        self.assertEqual((lead(line), led(order, line, word)), ((1, 0, 3, 2), (1, 0, 2, 3)))
        word[0] = 9
        self.assertEqual(lead(line), (1, 0, 3, 2))
        word.clear()
        self.assertEqual((lead(line), lead(line)), ((1, 0, 3, 2), (1, 0, 3, 2)))

    def test_leaders_do_not_mingle(self):
        one, other, third = leader(EXAMPLE, [1]), leader(EXAMPLE, []), leader(Order(4, []), [1])
        line = (0, 2, 1, 3)
        self.assertEqual([one(line), other(line), third(line)], [(0, 1, 2, 3), line, (0, 1, 2, 3)])

    def test_kinds(self):
        line = (0, 1, 2, 3)
        for told in (led(EXAMPLE, line, [1]), led(EXAMPLE, line, []), leader(EXAMPLE, [1])(line)):
            self.assertIs(type(told), tuple)
            self.assertTrue(all(is_whole(thing) for thing in told))


class NothingIsChangedTest(unittest.TestCase):
    def test_the_same_again_whatever_was_asked_between(self):
        def answers():
            return [toggled(EXAMPLE, 7, 1), walked(EXAMPLE, 0, [0, 1, 3]), swapped(EXAMPLE, (0, 1, 2, 3), 1),
                    led(EXAMPLE, (0, 2, 1, 3), [0, 1])]
        before = answers()
        other = Order(4, [])
        toggled(other, 7, 1), walked(other, 9, [0, 1, 3])
        swapped(other, (3, 1, 2, 0), 1), led(other, (3, 1, 2, 0), [2])
        with self.assertRaises(NoThing):
            walked(EXAMPLE, 0, [0, 1, 4])
        with self.assertRaises(NoPlace):
            led(EXAMPLE, (0, 1, 2, 3), [1, 4])
        self.assertEqual(answers(), before)
        self.assertEqual(EXAMPLE.covers(), [(0, 1), (0, 2), (1, 3), (2, 3)])


if __name__ == "__main__":
    unittest.main()
