import unittest

from helper import (
    FAR, all_parts, as_number, chain, down_numbers, is_whole, pairs_below, part_order, sets_of_things, some_parts)
from toggleclock.downsets import (
    brim, doors, downset_at, downsets, how_many, is_downset, place_of, set_of, things_of)
from toggleclock.errors import NoDownset, NoPlace
from toggleclock.orders import Order

EXAMPLE = Order(4, [(0, 1), (0, 2), (1, 3), (2, 3)])


class SetsTest(unittest.TestCase):
    def test_the_documents_sets(self):
        self.assertEqual(things_of(0), [])
        self.assertEqual(things_of(5), [0, 2])
        self.assertEqual(set_of([]), 0)
        self.assertEqual(set_of([0, 2]), 5)

    def test_single_things(self):
        for thing in range(9):
            self.assertEqual(set_of([thing]), 2 ** thing)
            self.assertEqual(things_of(2 ** thing), [thing])

    def test_there_and_back(self):
        for bits, things in sets_of_things(9):
            self.assertEqual(things_of(bits), sorted(things))
            self.assertEqual(set_of(things_of(bits)), bits)
        self.assertEqual(things_of(511), [0, 1, 2, 3, 4, 5, 6, 7, 8])

    def test_things_in_any_order_some_twice(self):
        self.assertEqual(set_of([2, 0]), 5)
        self.assertEqual(set_of([2, 0, 2, 2, 0]), 5)
        self.assertEqual(set_of([8, 7, 6, 5, 4, 3, 2, 1, 0]), 511)
        self.assertEqual(set_of([3] * 1000), 8)
        self.assertEqual(set_of([0, 0]), 1)

    def test_somewhat_beyond(self):
        self.assertEqual(things_of(512), [9])
        self.assertEqual(set_of([9, 0]), 513)

    def test_kinds(self):
        self.assertTrue(is_whole(set_of([])))
        self.assertTrue(is_whole(set_of([0])))
        self.assertIs(type(things_of(0)), list)
        self.assertTrue(all(is_whole(thing) for thing in things_of(511)))

    def test_the_list_handed_in_stays(self):
        things = [4, 1, 4, 0]
        set_of(things)
        self.assertEqual(things, [4, 1, 4, 0])

    def test_told_lists_are_the_askers_own(self):
        first = things_of(5)
        first.append(7)
        self.assertEqual(things_of(5), [0, 2])
        self.assertEqual(first, [0, 2, 7])


class DownsetTest(unittest.TestCase):
    def test_each_set_of_many_orders(self):
        for many, pairs in some_parts():
            order, expected = Order(many, pairs), set(down_numbers(many, pairs))
            for bits in range(2 ** many):
                self.assertIs(is_downset(order, bits), bits in expected)

    def test_none_and_all(self):
        for many, pairs in some_parts():
            order = Order(many, pairs)
            self.assertIs(is_downset(order, 0), True)
            self.assertIs(is_downset(order, 2 ** many - 1), True)

    def test_a_lower_thing_lacks(self):
        for bits in (2, 4, 8, 6, 9, 10, 11, 12, 13, 14):
            self.assertIs(is_downset(EXAMPLE, bits), False)

    def test_a_lower_thing_that_is_not_just_below_lacks(self):
        self.assertIs(is_downset(chain(3), 0b110), False)
        self.assertIs(is_downset(chain(3), 0b100), False)

    def test_numbers_below_0_and_beyond(self):
        for many, pairs in some_parts():
            order = Order(many, pairs)
            whole = 2 ** many
            for bits in (-1, -2, -whole, 1 - whole, whole, whole + 1, 2 * whole - 1, 2 * whole, FAR, -FAR):
                self.assertIs(is_downset(order, bits), False)

    def test_brim_and_doors_of_all_downsets(self):
        for many, pairs in some_parts():
            order, below = Order(many, pairs), pairs_below(many, pairs)
            for bits in down_numbers(many, pairs):
                inside = {thing for thing in range(many) if bits >> thing & 1}
                top = {thing for thing in inside if not any((thing, other) in below for other in inside)}
                next_in = {thing for thing in range(many) if thing not in inside
                           and all(low in inside for low, high in below if high == thing)}
                self.assertEqual(brim(order, bits), as_number(top))
                self.assertEqual(doors(order, bits), as_number(next_in))

    def test_a_chain(self):
        order = chain(9)
        for length in range(10):
            bits = 2 ** length - 1
            self.assertEqual(brim(order, bits), 0 if length == 0 else 2 ** (length - 1))
            self.assertEqual(doors(order, bits), 0 if length == 9 else 2 ** length)

    def test_none_below_another(self):
        order = Order(9, [])
        for bits in range(512):
            self.assertEqual(brim(order, bits), bits)
            self.assertEqual(doors(order, bits), 511 - bits)

    def test_the_example(self):
        self.assertEqual(downsets(EXAMPLE), [0, 1, 3, 5, 7, 15])
        self.assertEqual([brim(EXAMPLE, bits) for bits in downsets(EXAMPLE)], [0, 1, 2, 4, 6, 8])
        self.assertEqual([doors(EXAMPLE, bits) for bits in downsets(EXAMPLE)], [1, 6, 4, 2, 8, 0])

    def test_one_thing(self):
        order = Order(1, [])
        self.assertEqual([brim(order, 0), brim(order, 1), doors(order, 0), doors(order, 1)], [0, 1, 1, 0])

    def test_kinds(self):
        for bits in downsets(EXAMPLE):
            self.assertTrue(is_whole(bits))
            self.assertTrue(is_whole(brim(EXAMPLE, bits)))
            self.assertTrue(is_whole(doors(EXAMPLE, bits)))


class ListedTest(unittest.TestCase):
    def test_rising_and_how_many(self):
        for many, pairs in list(some_parts()) + list(all_parts(5))[::7]:
            order, expected = Order(many, pairs), down_numbers(many, pairs)
            self.assertEqual(downsets(order), expected)
            self.assertEqual(how_many(order), len(expected))

    def test_known_counts(self):
        self.assertEqual(how_many(Order(9, [])), 512)
        self.assertEqual(how_many(chain(9)), 10)
        self.assertEqual(how_many(Order(1, [])), 2)
        self.assertEqual(how_many(EXAMPLE), 6)
        self.assertEqual(downsets(Order(9, [])), list(range(512)))

    def test_places_there_and_back(self):
        for many, pairs in some_parts():
            order = Order(many, pairs)
            for place, bits in enumerate(down_numbers(many, pairs)):
                self.assertEqual(place_of(order, bits), place)
                self.assertEqual(downset_at(order, place), bits)

    def test_kinds(self):
        self.assertIs(type(downsets(EXAMPLE)), list)
        for value in (how_many(EXAMPLE), place_of(EXAMPLE, 0), place_of(EXAMPLE, 1), downset_at(EXAMPLE, 0)):
            self.assertTrue(is_whole(value))

    def test_what_is_no_downset(self):
        for many, pairs in some_parts():
            order, fine = Order(many, pairs), set(down_numbers(many, pairs))
            wrong = [bits for bits in range(2 ** many) if bits not in fine][:20]
            for bits in wrong + [-1, -2, 2 ** many, 2 ** many + 1, 2 ** (many + 1) - 1, FAR, -FAR]:
                for asked in (brim, doors, place_of):
                    with self.assertRaises(NoDownset) as caught:
                        asked(order, bits)
                    self.assertEqual(caught.exception.bits, bits)

    def test_what_is_no_place(self):
        for many, pairs in some_parts():
            order, count = Order(many, pairs), len(down_numbers(many, pairs))
            for place in (-1, -count, count, count + 1, FAR, -FAR):
                with self.assertRaises(NoPlace) as caught:
                    downset_at(order, place)
                self.assertEqual(caught.exception.place, place)

    def test_told_lists_are_the_askers_own(self):
        first, second = downsets(EXAMPLE), downsets(EXAMPLE)
        self.assertIsNot(first, second)
        first.clear()
        second.append(9)
        self.assertEqual(downsets(EXAMPLE), [0, 1, 3, 5, 7, 15])
        self.assertEqual(how_many(EXAMPLE), 6)
        self.assertEqual(place_of(EXAMPLE, 15), 5)
        self.assertEqual(downset_at(EXAMPLE, 5), 15)
        self.assertEqual(second, [0, 1, 3, 5, 7, 15, 9])

    def test_the_same_again_whatever_was_asked_between(self):
        def answers():
            return [downsets(EXAMPLE), how_many(EXAMPLE), place_of(EXAMPLE, 7), downset_at(EXAMPLE, 4),
                    brim(EXAMPLE, 7), doors(EXAMPLE, 7), is_downset(EXAMPLE, 6)]
        before = answers()
        other = Order(4, [])
        downsets(other), how_many(other), place_of(other, 7), brim(other, 7), doors(other, 7)
        with self.assertRaises(NoDownset):
            brim(EXAMPLE, 6)
        self.assertEqual(answers(), before)
        self.assertEqual(EXAMPLE.covers(), [(0, 1), (0, 2), (1, 3), (2, 3)])


class SplittingTest(unittest.TestCase):
    def test_splittings_by_each_thing(self):
        for many, pairs in some_parts():
            order, below = Order(many, pairs), pairs_below(many, pairs)
            for thing in range(many):
                others = set(range(many)) - {thing}
                not_above = {other for other in others if (thing, other) not in below}
                not_below = {other for other in others if (other, thing) not in below}
                without = self.check_without(order, many, pairs, thing, not_above)
                inner = part_order(many, pairs, not_below)
                with_it = 1 if inner is None else how_many(inner)
                self.assertEqual(how_many(order), without + with_it)
                self.assertEqual(len([bits for bits in downsets(order) if bits >> thing & 1]), with_it)

    def check_without(self, order, many, pairs, thing, kept):
        """Those without the thing are the part's own downsets, each thing under its old number."""
        inner = part_order(many, pairs, kept)
        old = sorted(kept)
        found = [0] if inner is None else [set_of([old[at] for at in things_of(bits)]) for bits in downsets(inner)]
        self.assertEqual(sorted(found), [bits for bits in downsets(order) if not bits >> thing & 1])
        return len(found)


if __name__ == "__main__":
    unittest.main()
