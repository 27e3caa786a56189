import unittest
from functools import partial
from random import Random

from helper import (
    FAR, LARGER_PARTS, all_parts, chain, down_numbers, field_parts, is_whole, plain_above, plain_below, plain_great,
    plain_lines, plain_rounds, plain_slid, stairs_parts)
from toggleclock.downsets import downsets
from toggleclock.errors import NoDownset, NoLine
from toggleclock.lines import lines
from toggleclock.orders import Order
from toggleclock.rounds import all_rounds, lengths, round_of
from toggleclock.turns import Above, Below, Great, Slide

EXAMPLE = Order(4, [(0, 1), (0, 2), (1, 3), (2, 3)])
PLAIN_TURNS = [(Great, plain_great), (Slide, plain_slid), (Above, plain_above), (Below, plain_below)]
LINE_KINDS = [Slide, Above, Below]
PARTS = [parts for many in (1, 2, 3) for parts in all_parts(many)] + list(all_parts(4))[::5]
PARTS += [(many, pairs) for many, pairs in LARGER_PARTS if many <= 6]
PARTS += [field_parts(3, 3), stairs_parts(3), (9, [(low, low + 1) for low in range(8)])]


def all_ones(kind, many, pairs):
    """All downsets, or all lines, of the order."""
    if kind is Great:
        return down_numbers(many, pairs)
    return plain_lines(many, pairs) if many < 8 else lines(Order(many, pairs))


def turns_of_many_orders():
    for many, pairs in PARTS:
        for kind, plain in PLAIN_TURNS:
            yield kind(Order(many, pairs)), partial(plain, many, pairs), all_ones(kind, many, pairs)


def mixed(chance, ones):
    return chance.sample(ones, len(ones))


class RoundOfTest(unittest.TestCase):
    def test_by_each_turn(self):
        for turn, turned, ones in turns_of_many_orders():
            for one in ones[::1 + len(ones) // 20]:
                circle = round_of(turn, one)
                self.assertEqual(circle[0], one)
                self.assertEqual(len(set(circle)), len(circle))
                self.assertEqual([turned(other) for other in circle], circle[1:] + circle[:1])

    def test_the_example(self):
        self.assertEqual(round_of(Great(EXAMPLE), 0), [0, 1, 7, 15])
        self.assertEqual(round_of(Great(EXAMPLE), 7), [7, 15, 0, 1])
        self.assertEqual(round_of(Great(EXAMPLE), 3), [3, 5])
        self.assertEqual(round_of(Slide(EXAMPLE), (0, 2, 1, 3)), [(0, 2, 1, 3), (0, 1, 2, 3)])
        self.assertEqual(round_of(Below(Order(2, [])), (1, 0)), [(1, 0), (0, 1)])

    def test_rounds_of_one(self):
        self.assertEqual(round_of(Above(EXAMPLE), (0, 2, 1, 3)), [(0, 2, 1, 3)])
        for kind in LINE_KINDS:
            for many in range(1, 10):
                self.assertEqual(round_of(kind(chain(many)), tuple(range(many))), [tuple(range(many))])

    def test_one_thing(self):
        self.assertEqual(round_of(Great(Order(1, [])), 0), [0, 1])
        self.assertEqual(round_of(Great(Order(1, [])), 1), [1, 0])

    def test_chains_go_through_all_downsets(self):
        for many in range(1, 10):
            self.assertEqual(round_of(Great(chain(many)), 0), [2 ** low - 1 for low in range(many + 1)])

    def test_nothing_below_anything(self):
        for bits in (0, 5, 511):
            self.assertEqual(round_of(Great(Order(9, [])), bits), [bits, 511 - bits])
        line = (4, 0, 8, 1, 2, 3, 7, 6, 5)
        self.assertEqual(round_of(Slide(Order(9, [])), line), [line[at:] + line[:at] for at in range(9)])
        for kind in (Above, Below):
            self.assertEqual(round_of(kind(Order(9, [])), line), [line, line[::-1]])

    def test_turned_over_a_round_has_one_or_two(self):
        for kind in (Above, Below):
            found = {len(round_of(turn, line)) for turn, _, ones in turns_of_many_orders() if isinstance(turn, kind)
                     for line in ones}
            self.assertEqual(found, {1, 2})

    def test_what_is_no_downset(self):
        for bits in (2, 6, 8, 16, 31, -1, FAR, -FAR):
            with self.assertRaises(NoDownset) as caught:
                round_of(Great(EXAMPLE), bits)
            self.assertEqual(caught.exception.bits, bits)

    def test_what_is_no_line(self):
        for kind in LINE_KINDS:
            for line in ((1, 0, 2, 3), (0, 1, 3, 2), (0, 1, 2), (), (0, 1, 1, 3), (0, 1, 2, 4), (FAR, 0, 1, 2)):
                with self.assertRaises(NoLine):
                    round_of(kind(EXAMPLE), line)

    def test_kinds(self):
        told = round_of(Great(EXAMPLE), 0)
        self.assertIs(type(told), list)
        self.assertTrue(all(is_whole(bits) for bits in told))
        for kind in LINE_KINDS:
            told = round_of(kind(EXAMPLE), (0, 1, 2, 3))
            self.assertIs(type(told), list)
            self.assertTrue(all(type(line) is tuple for line in told))

    def test_told_lists_are_the_askers_own(self):
        for turn, one in ((Great(EXAMPLE), 0), (Slide(EXAMPLE), (0, 1, 2, 3))):
            first, second = round_of(turn, one), round_of(turn, one)
            kept = list(second)
            first.clear()
            self.assertEqual(second, kept)
            second.append(one)
            self.assertEqual(round_of(turn, one), kept)


class AllRoundsTest(unittest.TestCase):
    def test_all_downsets_and_all_lines(self):
        for turn, turned, ones in turns_of_many_orders():
            self.assertEqual(all_rounds(turn, ones), plain_rounds(turned, ones))

    def test_lists_that_are_not_sorted(self):
        chance = Random(23)
        for turn, turned, ones in turns_of_many_orders():
            for listed in (ones[::-1], mixed(chance, ones)):
                self.assertEqual(all_rounds(turn, listed), plain_rounds(turned, listed))

    def test_each_begins_with_what_stands_first_in_the_list(self):
        chance = Random(32)
        for turn, _, ones in turns_of_many_orders():
            listed = mixed(chance, ones)
            told = all_rounds(turn, listed)
            self.assertEqual(sorted(one for circle in told for one in circle), sorted(listed))
            firsts = [listed.index(circle[0]) for circle in told]
            self.assertEqual(firsts, sorted(firsts))
            self.assertEqual(firsts, [min(listed.index(one) for one in circle) for circle in told])
            self.assertEqual(told, [round_of(turn, circle[0]) for circle in told])

    def test_lists_of_some_rounds(self):
        chance = Random(2)
        for turn, turned, ones in turns_of_many_orders():
            some = [one for circle in plain_rounds(turned, ones)[::2] for one in circle]
            for listed in (some, mixed(chance, some)):
                self.assertEqual(all_rounds(turn, listed), plain_rounds(turned, listed))

    def test_the_example(self):
        turn = Great(EXAMPLE)
        self.assertEqual(all_rounds(turn, [0, 1, 3, 5, 7, 15]), [[0, 1, 7, 15], [3, 5]])
        self.assertEqual(all_rounds(turn, [5, 7, 3, 0, 15, 1]), [[5, 3], [7, 15, 0, 1]])
        self.assertEqual(all_rounds(turn, [3, 5]), [[3, 5]])
        self.assertEqual(all_rounds(Above(EXAMPLE), [(0, 2, 1, 3), (0, 1, 2, 3)]), [[(0, 2, 1, 3)], [(0, 1, 2, 3)]])

    def test_the_list_without_anything(self):
        for kind, _ in PLAIN_TURNS:
            self.assertEqual(all_rounds(kind(EXAMPLE), []), [])

    def test_what_is_no_downset(self):
        for listed, bits in (([2], 2), ([0, 1, 7, 15, 4], 4), ([-1, 2], -1), ([3, 16, 5, 2], 16), ([FAR], FAR)):
            with self.assertRaises(NoDownset) as caught:
                all_rounds(Great(EXAMPLE), listed)
            self.assertEqual(caught.exception.bits, bits)

    def test_what_is_no_line(self):
        for kind in LINE_KINDS:
            for listed in ([(1, 0, 2, 3)], [(0, 1, 2, 3), (0, 2, 1, 3), (0, 1, 2)], [()], [(0, 1, 2, 3), (FAR,) * 4]):
                with self.assertRaises(NoLine):
                    all_rounds(kind(EXAMPLE), listed)

    def test_the_list_handed_in_stays(self):
        listed = [5, 7, 3, 0, 15, 1]
        told = all_rounds(Great(EXAMPLE), listed)
        self.assertEqual(listed, [5, 7, 3, 0, 15, 1])
        listed.clear()
        self.assertEqual(told, [[5, 3], [7, 15, 0, 1]])
        rows = [(0, 2, 1, 3), (0, 1, 2, 3)]
        all_rounds(Slide(EXAMPLE), rows)
        self.assertEqual(rows, [(0, 2, 1, 3), (0, 1, 2, 3)])
        with self.assertRaises(NoDownset):
            all_rounds(Great(EXAMPLE), listed + [3, 2])

    def test_told_lists_are_the_askers_own(self):
        for turn, ones in ((Great(EXAMPLE), downsets(EXAMPLE)), (Slide(EXAMPLE), lines(EXAMPLE))):
            first, second, kept = (all_rounds(turn, ones) for _ in range(3))
            for circle in first:
                circle.clear()
            first.append(0)
            self.assertEqual(second, kept)
            for circle in second:
                circle.append(circle[0])
            second.clear()
            self.assertEqual(all_rounds(turn, ones), kept)

    def test_kinds(self):
        for kind, _ in PLAIN_TURNS:
            told = all_rounds(kind(EXAMPLE), all_ones(kind, 4, [(0, 1), (0, 2), (1, 3), (2, 3)]))
            self.assertIs(type(told), list)
            self.assertTrue(all(type(circle) is list for circle in told))

    def test_the_same_again_whatever_was_asked_between(self):
        chance = Random(3)
        asks = [(kind(order), ones(order)) for order in (EXAMPLE, chain(3), Order(3, []))
                for kind, ones in ((Great, downsets), (Slide, lines), (Above, lines), (Below, lines))]
        before = [all_rounds(turn, ones) for turn, ones in asks]
        for at in [chance.randrange(len(asks)) for _ in range(100)]:
            self.assertEqual(all_rounds(*asks[at]), before[at])


class LengthsTest(unittest.TestCase):
    def test_of_all_rounds(self):
        for turn, turned, ones in turns_of_many_orders():
            rounds = plain_rounds(turned, ones)
            expected = [len(circle) for circle in rounds]
            self.assertEqual(lengths(all_rounds(turn, ones)), {one: expected.count(one) for one in expected})

    def test_the_example(self):
        self.assertEqual(lengths([[0, 1, 7, 15], [3, 5]]), {4: 1, 2: 1})
        self.assertEqual(lengths([[(0, 2, 1, 3)], [(0, 1, 2, 3)]]), {1: 2})
        self.assertEqual(lengths([[3, 5], [0, 1, 7, 15], [5, 3]]), {2: 2, 4: 1})

    def test_no_rounds(self):
        self.assertEqual(lengths([]), {})

    def test_kinds(self):
        for rounds in ([], [[0, 1, 7, 15], [3, 5]]):
            told = lengths(rounds)
            self.assertIs(type(told), dict)
            self.assertTrue(all(is_whole(length) and is_whole(many) for length, many in told.items()))

    def test_the_list_handed_in_stays_and_the_dict_is_the_askers_own(self):
        rounds = [[0, 1, 7, 15], [3, 5]]
        first, second = lengths(rounds), lengths(rounds)
        self.assertEqual(rounds, [[0, 1, 7, 15], [3, 5]])
        first.clear()
        rounds[0].clear()
        rounds.pop()
        self.assertEqual(second, {4: 1, 2: 1})
        second[4] = 9
        self.assertEqual(lengths([[0, 1, 7, 15], [3, 5]]), {4: 1, 2: 1})


if __name__ == "__main__":
    unittest.main()
