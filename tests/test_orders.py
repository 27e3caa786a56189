import unittest

from helper import FAR, all_parts, covers_of, is_whole, pairs_below, some_parts
from toggleclock.errors import NoCount, NoPair, NoThing
from toggleclock.orders import Order

EXAMPLE = [(0, 1), (0, 2), (1, 3), (2, 3)]


class MadeTest(unittest.TestCase):
    def refused_count(self, many, pairs):
        with self.assertRaises(NoCount) as caught:
            Order(many, pairs)
        self.assertEqual(caught.exception.number, many)

    def refused_pair(self, many, pairs, low, high):
        with self.assertRaises(NoPair) as caught:
            Order(many, pairs)
        self.assertEqual((caught.exception.low, caught.exception.high), (low, high))

    def test_one_to_nine_things(self):
        for many in range(1, 10):
            order = Order(many, [])
            self.assertEqual(order.size(), many)
            self.assertTrue(is_whole(order.size()))
            self.assertEqual(order.covers(), [])

    def test_other_numbers_are_refused(self):
        for many in (0, 10, -1, -9, 11, 100, FAR, -FAR):
            self.refused_count(many, [])

    def test_the_number_goes_ahead_of_the_pairs(self):
        for many in (0, 10, -3, FAR):
            self.refused_count(many, [(1, 0)])
            self.refused_count(many, [(0, 1), (5, 5), (-1, 2)])

    def test_wrong_pairs(self):
        for pair in ((1, 1), (0, 0), (2, 1), (-1, 2), (-2, -1), (0, 4), (3, 4), (4, 5), (0, FAR), (-FAR, 0), (2, -1)):
            self.refused_pair(4, [pair], *pair)

    def test_no_pair_of_one_thing(self):
        for pair in ((0, 0), (0, 1), (-1, 0)):
            self.refused_pair(1, [pair], *pair)

    def test_the_greatest_pair_of_nine_things(self):
        self.assertEqual(Order(9, [(7, 8)]).covers(), [(7, 8)])
        self.refused_pair(9, [(7, 8), (8, 9)], 8, 9)

    def test_the_first_wrong_pair_of_several(self):
        wrong = [(2, 2), (3, 1), (-1, 0), (0, 4)]
        for turn in range(4):
            rest = wrong[turn:] + wrong[:turn]
            self.refused_pair(4, [(0, 1), (2, 3)] + rest, *rest[0])

    def test_pairs_several_times_and_in_any_order(self):
        for pairs in (EXAMPLE, EXAMPLE[::-1], EXAMPLE + EXAMPLE, [EXAMPLE[2], EXAMPLE[0], EXAMPLE[3], EXAMPLE[1]]):
            order = Order(4, pairs)
            self.assertEqual(order.covers(), EXAMPLE)
            self.assertTrue(order.below(0, 3))

    def test_pairs_that_follow_from_others(self):
        order = Order(4, [(0, 3)] + EXAMPLE + [(0, 3)])
        self.assertEqual(order.covers(), EXAMPLE)
        self.assertEqual(Order(3, [(0, 2), (1, 2), (0, 1)]).covers(), [(0, 1), (1, 2)])

    def test_many_pairs(self):
        self.assertEqual(Order(4, EXAMPLE * 250).covers(), EXAMPLE)

    def test_the_list_handed_in_stays(self):
        pairs = [(2, 3), (0, 3), (0, 1), (2, 3), (1, 3)]
        before = list(pairs)
        order = Order(4, pairs)
        order.covers()
        order.below(0, 3)
        self.assertEqual(pairs, before)

    def test_the_list_handed_in_and_changed_behind_changes_nothing(self):
        pairs = [(0, 1)]
        order = Order(3, pairs)
        pairs.append((1, 2))
        self.assertEqual(order.covers(), [(0, 1)])
        self.assertFalse(order.below(1, 2))
        pairs.clear()
        self.assertEqual(order.covers(), [(0, 1)])
        self.assertTrue(order.below(0, 1))
        self.assertEqual(order.just_above(0), [1])
        self.assertEqual(order.just_below(1), [0])

    def test_a_list_that_was_refused_stays(self):
        pairs = [(0, 1), (1, 1), (2, 0)]
        self.refused_pair(3, pairs, 1, 1)
        self.assertEqual(pairs, [(0, 1), (1, 1), (2, 0)])


class ToldTest(unittest.TestCase):
    def setUp(self):
        self.order = Order(4, EXAMPLE)

    def refused(self, thing, asked, *handed):
        with self.assertRaises(NoThing) as caught:
            asked(*handed)
        self.assertEqual(caught.exception.thing, thing)

    def test_below_for_each_two_things(self):
        for many, pairs in some_parts():
            order, expected = Order(many, pairs), pairs_below(many, pairs)
            for one in range(many):
                for other in range(many):
                    self.assertIs(order.below(one, other), (one, other) in expected)

    def test_a_thing_is_not_below_itself(self):
        for thing in range(4):
            self.assertIs(self.order.below(thing, thing), False)

    def test_covers_and_neighbours_of_all_orders(self):
        for many, pairs in list(some_parts()) + list(all_parts(5)):
            order, expected = Order(many, pairs), covers_of(many, pairs)
            self.assertEqual(order.covers(), expected)
            for thing in range(many):
                self.assertEqual(order.just_below(thing), [low for low, high in expected if high == thing])
                self.assertEqual(order.just_above(thing), [high for low, high in expected if low == thing])

    def test_the_example(self):
        self.assertEqual(self.order.size(), 4)
        self.assertEqual(self.order.covers(), EXAMPLE)
        self.assertEqual([self.order.just_below(thing) for thing in range(4)], [[], [0], [0], [1, 2]])
        self.assertEqual([self.order.just_above(thing) for thing in range(4)], [[1, 2], [3], [3], []])

    def test_kinds(self):
        order = Order(9, [(0, 8), (3, 8), (0, 3), (1, 4)])
        self.assertIs(type(order.covers()), list)
        for pair in order.covers():
            self.assertIs(type(pair), tuple)
            self.assertTrue(all(is_whole(thing) for thing in pair))
        for told in (order.just_below(8), order.just_above(0), order.just_below(0)):
            self.assertIs(type(told), list)
            self.assertTrue(all(is_whole(thing) for thing in told))

    def test_what_is_no_thing(self):
        for thing in (-1, 4, 5, 9, FAR, -FAR):
            self.refused(thing, self.order.below, thing, 0)
            self.refused(thing, self.order.below, 0, thing)
            self.refused(thing, self.order.below, thing, thing)
            self.refused(thing, self.order.just_below, thing)
            self.refused(thing, self.order.just_above, thing)

    def test_of_two_the_first_goes_ahead(self):
        self.refused(-1, self.order.below, -1, 4)
        self.refused(4, self.order.below, 4, -1)
        self.refused(9, self.order.below, 9, 10)

    def test_the_edges_of_one_and_nine_things(self):
        self.refused(1, Order(1, []).just_below, 1)
        self.assertEqual(Order(1, []).just_above(0), [])
        self.refused(9, Order(9, []).just_above, 9)
        self.assertEqual(Order(9, [(0, 8)]).just_below(8), [0])

    def test_told_lists_are_the_askers_own(self):
        asks = [self.order.covers, lambda: self.order.just_below(3), lambda: self.order.just_above(0)]
        for ask in asks:
            first, second = ask(), ask()
            kept = list(first)
            self.assertIsNot(first, second)
            first.append((2, 2))
            second.clear()
            self.assertEqual(ask(), kept)
            self.assertEqual(first, kept + [(2, 2)])

    def test_changed_lists_change_nothing_else(self):
        self.order.covers().clear()
        self.order.just_below(3).append(0)
        self.order.just_above(0).reverse()
        self.assertEqual(self.order.covers(), EXAMPLE)
        self.assertEqual(self.order.just_below(3), [1, 2])
        self.assertEqual(self.order.just_above(0), [1, 2])
        self.assertIs(self.order.below(0, 3), True)
        self.assertIs(self.order.below(1, 2), False)

    def test_the_same_again_whatever_was_asked_between(self):
        before = (self.order.covers(), self.order.just_below(3), self.order.below(0, 3), self.order.size())
        Order(4, [(0, 3)]).covers()
        Order(9, []).just_above(0)
        self.refused(7, self.order.below, 7, 8)
        after = (self.order.covers(), self.order.just_below(3), self.order.below(0, 3), self.order.size())
        self.assertEqual(before, after)


if __name__ == "__main__":
    unittest.main()
