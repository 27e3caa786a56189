import unittest
from random import Random

from helper import (
    FAR, all_parts, all_things, behind_all_below, chain, down_numbers, is_whole, pairs_below, plain_above, plain_below,
    plain_great, plain_great_back, plain_lines, plain_slid, plain_slid_back, some_lines, some_parts)
from toggleclock.errors import NoDownset, NoLine
from toggleclock.lines import is_line
from toggleclock.orders import Order
from toggleclock.toggles import led, walked
from toggleclock.turns import Above, Below, Great, Slide, Turn

EXAMPLE = Order(4, [(0, 1), (0, 2), (1, 3), (2, 3)])
KINDS = [Great, Slide, Above, Below]
LINE_KINDS = [Slide, Above, Below]
NO_LINES = [(1, 0, 2, 3), (0, 1, 3, 2), (0, 1, 2), (0, 1, 2, 3, 4), (0, 1, 1, 3), (0, 1, 2, 4), (-1, 0, 1, 2), (),
            (0,), (FAR, 0, 1, 2)]


def lines_of_many_orders(most):
    for many, pairs in list(some_parts()) + list(all_parts(5))[::41]:
        for line in some_lines(many, pairs, most):
            yield many, pairs, line


class TurnTest(unittest.TestCase):
    def test_each_is_a_turn_and_none_of_the_others(self):
        for kind in KINDS:
            turn = kind(EXAMPLE)
            self.assertIsInstance(turn, Turn)
            self.assertEqual(kind.__bases__, (Turn,))
            self.assertEqual([other for other in KINDS if isinstance(turn, other)], [kind])

    def test_a_told_word_that_is_changed_changes_nothing(self):
        for kind in KINDS:
            turn, one = kind(EXAMPLE), 5 if kind is Great else (0, 2, 1, 3)
            before = (turn.word(), turn.done(one), turn.back(one))
            first, second = turn.word(), turn.word()
            self.assertIs(type(first), list)
            self.assertIsNot(first, second)
            first.clear()
            second.append(0)
            self.assertEqual((turn.word(), turn.done(one), turn.back(one)), before)
            self.assertEqual(second, before[0] + [0])

    def test_words_of_whole_numbers(self):
        for kind in KINDS:
            self.assertTrue(all(is_whole(one) for one in kind(EXAMPLE).word()))

    def test_turns_do_not_mingle(self):
        one, other = Great(EXAMPLE), Great(Order(4, []))
        self.assertEqual([one.done(0), other.done(0), one.done(0)], [1, 15, 1])
        one, other = Slide(EXAMPLE), Slide(Order(4, []))
        line = (0, 1, 2, 3)
        self.assertEqual([one.done(line), other.done(line), one.done(line)], [(0, 2, 1, 3), (1, 2, 3, 0), (0, 2, 1, 3)])

    def test_refusals_change_nothing(self):
        for kind in LINE_KINDS:
            turn = kind(EXAMPLE)
            before = turn.done((0, 1, 2, 3)), turn.back((0, 1, 2, 3))
            for row in NO_LINES:
                with self.assertRaises(NoLine):
                    turn.done(row)
                with self.assertRaises(NoLine):
                    turn.back(row)
            self.assertEqual((turn.done((0, 1, 2, 3)), turn.back((0, 1, 2, 3))), before)
            with self.assertRaises(NoLine):
                kind(Order(1, [])).done(())
            with self.assertRaises(NoLine):
                kind(Order(1, [])).back((1,))
            with self.assertRaises(NoLine):
                kind(chain(2)).done((1, 0))
            with self.assertRaises(NoLine):
                kind(chain(2)).back((1, 0))


class GreatTest(unittest.TestCase):
    def test_against_a_plain_reckoning(self):
        for many, pairs in some_parts():
            turn = Great(Order(many, pairs))
            for bits in down_numbers(many, pairs):
                self.assertEqual(turn.done(bits), plain_great(many, pairs, bits))
                self.assertEqual(turn.back(bits), plain_great_back(many, pairs, bits))

    def test_of_all_things_and_back_of_none(self):
        for many, pairs in some_parts():
            turn = Great(Order(many, pairs))
            self.assertEqual(turn.done(all_things(many)), 0)
            self.assertEqual(turn.back(0), all_things(many))

    def test_there_and_back(self):
        for many, pairs in some_parts():
            turn, found = Great(Order(many, pairs)), down_numbers(many, pairs)
            self.assertEqual([turn.back(turn.done(bits)) for bits in found], found)
            self.assertEqual([turn.done(turn.back(bits)) for bits in found], found)
            self.assertEqual(sorted(turn.done(bits) for bits in found), found)

    def test_the_example(self):
        turn = Great(EXAMPLE)
        self.assertEqual([turn.done(bits) for bits in (0, 1, 3, 5, 7, 15)], [1, 7, 5, 3, 15, 0])
        self.assertEqual([turn.back(bits) for bits in (0, 1, 3, 5, 7, 15)], [15, 0, 5, 3, 1, 7])

    def test_one_thing(self):
        turn = Great(Order(1, []))
        self.assertEqual([turn.done(0), turn.done(1), turn.back(0), turn.back(1)], [1, 0, 1, 0])
        self.assertEqual(turn.word(), [0])

    def test_the_word_has_each_thing_ahead_of_all_below_it(self):
        for many, pairs in some_parts():
            word = Great(Order(many, pairs)).word()
            self.assertEqual(sorted(word), list(range(many)))
            self.assertTrue(behind_all_below(pairs_below(many, pairs), word[::-1]))

    def test_the_word_walked(self):
        for many, pairs in some_parts():
            order = Order(many, pairs)
            turn = Great(order)
            for bits in down_numbers(many, pairs)[::1 if many < 9 else 7]:
                self.assertEqual(walked(order, bits, turn.word()), turn.done(bits))
                self.assertEqual(walked(order, bits, turn.word()[::-1]), turn.back(bits))

    def test_any_such_word_walked(self):
        for many, pairs in some_parts():
            order = Order(many, pairs)
            turn = Great(order)
            for line in some_lines(many, pairs, 12)[:12]:
                for bits in down_numbers(many, pairs)[::1 if many < 7 else 23]:
                    self.assertEqual(walked(order, bits, list(line[::-1])), turn.done(bits))
                    self.assertEqual(walked(order, bits, list(line)), turn.back(bits))

    def test_what_is_no_downset(self):
        turn = Great(EXAMPLE)
        for bits in (2, 4, 6, 8, 14, 16, 31, -1, -16, FAR, -FAR):
            for asked in (turn.done, turn.back):
                with self.assertRaises(NoDownset) as caught:
                    asked(bits)
                self.assertEqual(caught.exception.bits, bits)

    def test_kinds(self):
        turn = Great(EXAMPLE)
        for bits in (0, 1, 15):
            self.assertTrue(is_whole(turn.done(bits)))
            self.assertTrue(is_whole(turn.back(bits)))


class SlideTest(unittest.TestCase):
    def test_by_the_gap(self):
        for many, pairs, line in lines_of_many_orders(25):
            turn = Slide(Order(many, pairs))
            self.assertEqual(turn.done(line), plain_slid(many, pairs, line))
            self.assertEqual(turn.back(line), plain_slid_back(many, pairs, line))

    def test_by_the_word_of_places(self):
        for many, pairs, line in lines_of_many_orders(25):
            order = Order(many, pairs)
            turn = Slide(order)
            self.assertEqual(led(order, line, turn.word()), turn.done(line))
            self.assertEqual(led(order, line, turn.word()[::-1]), turn.back(line))

    def test_the_word(self):
        for many in range(1, 10):
            self.assertEqual(Slide(Order(many, [])).word(), list(range(many - 1)))
            self.assertEqual(Slide(chain(many)).word(), list(range(many - 1)))
        self.assertEqual(Slide(EXAMPLE).word(), [0, 1, 2])

    def test_there_and_back(self):
        for many, pairs in some_parts():
            turn, found = Slide(Order(many, pairs)), some_lines(many, pairs, 25)
            self.assertEqual([turn.back(turn.done(line)) for line in found], found)
            self.assertEqual([turn.done(turn.back(line)) for line in found], found)

    def test_every_line_comes_once(self):
        for many, pairs in ((6, [(0, 1), (0, 2), (1, 3), (1, 4), (2, 4), (2, 5)]), (6, [(0, 5), (2, 3)]), (5, [])):
            turn, found = Slide(Order(many, pairs)), plain_lines(many, pairs)
            self.assertEqual(sorted(turn.done(line) for line in found), found)
            self.assertEqual(sorted(turn.back(line) for line in found), found)

    def test_the_example(self):
        turn = Slide(EXAMPLE)
        self.assertEqual(turn.done((0, 1, 2, 3)), (0, 2, 1, 3))
        self.assertEqual(turn.back((0, 2, 1, 3)), (0, 1, 2, 3))

    def test_rows_of_five(self):
        # 0 goes, 2 is the first just above it and gives it 1; 4 gives 2 its 3; 4 gets the last number.
        order = Order(5, [(0, 2), (0, 3), (2, 4), (1, 4)])
        self.assertEqual(Slide(order).done((0, 2, 1, 4, 3)), (0, 1, 2, 3, 4))
        self.assertEqual(Slide(order).back((0, 1, 2, 3, 4)), (0, 2, 1, 4, 3))

    def test_nothing_below_anything(self):
        turn = Slide(Order(9, []))
        self.assertEqual(turn.done((4, 0, 8, 1, 2, 3, 7, 6, 5)), (0, 8, 1, 2, 3, 7, 6, 5, 4))
        self.assertEqual(turn.back((4, 0, 8, 1, 2, 3, 7, 6, 5)), (5, 4, 0, 8, 1, 2, 3, 7, 6))

    def test_chains_stay(self):
        for many in range(1, 10):
            line = tuple(range(many))
            self.assertEqual((Slide(chain(many)).done(line), Slide(chain(many)).back(line)), (line, line))

    def test_one_thing(self):
        turn = Slide(Order(1, []))
        self.assertEqual((turn.done((0,)), turn.back((0,)), turn.word()), ((0,), (0,), []))


class TurnedOverTest(unittest.TestCase):
    def test_part_by_part(self):
        for many, pairs, line in lines_of_many_orders(15):
            order = Order(many, pairs)
            self.assertEqual(Above(order).done(line), plain_above(many, pairs, line))
            self.assertEqual(Below(order).done(line), plain_below(many, pairs, line))

    def test_by_the_words(self):
        for many, pairs, line in lines_of_many_orders(25):
            order = Order(many, pairs)
            for turn in (Above(order), Below(order)):
                self.assertEqual(led(order, line, turn.word()), turn.done(line))
                self.assertIs(is_line(order, turn.done(line)), True)

    def test_the_words(self):
        above = [[], [0], [0, 1, 0], [0, 1, 2, 0, 1, 0], [0, 1, 2, 3, 0, 1, 2, 0, 1, 0]]
        below = [[], [0], [1, 0, 1], [2, 1, 0, 2, 1, 2], [3, 2, 1, 0, 3, 2, 1, 3, 2, 3]]
        for many in range(1, 6):
            for order in (Order(many, []), chain(many)):
                self.assertEqual(Above(order).word(), above[many - 1])
                self.assertEqual(Below(order).word(), below[many - 1])
        for kind in (Above, Below):
            self.assertEqual(len(kind(Order(9, [])).word()), 36)

    def test_twice(self):
        for many, pairs, line in lines_of_many_orders(25):
            for kind in (Above, Below):
                turn = kind(Order(many, pairs))
                self.assertEqual(turn.done(turn.done(line)), line)

    def test_back_is_the_same_as_done(self):
        for many, pairs, line in lines_of_many_orders(10):
            for kind in (Above, Below):
                turn = kind(Order(many, pairs))
                self.assertEqual(turn.back(line), turn.done(line))

    def test_behind_a_sliding(self):
        for many, pairs, line in lines_of_many_orders(15):
            order = Order(many, pairs)
            slide = Slide(order)
            for turn in (Above(order), Below(order)):
                self.assertEqual(turn.done(slide.done(line)), slide.back(turn.done(line)))

    def test_as_many_slidings_as_things(self):
        for many, pairs, line in lines_of_many_orders(15):
            order, slid = Order(many, pairs), line
            for _ in range(many):
                slid = Slide(order).done(slid)
            self.assertEqual(Below(order).done(Above(order).done(line)), slid)

    def test_one_thing(self):
        for kind in (Above, Below):
            turn = kind(Order(1, []))
            self.assertEqual((turn.done((0,)), turn.back((0,)), turn.word()), ((0,), (0,), []))

    def test_two_things(self):
        for kind in (Above, Below):
            turn = kind(Order(2, []))
            self.assertEqual((turn.done((0, 1)), turn.done((1, 0))), ((1, 0), (0, 1)))
            self.assertEqual(kind(chain(2)).done((0, 1)), (0, 1))

    def test_nothing_below_anything(self):
        for kind in (Above, Below):
            self.assertEqual(kind(Order(9, [])).done((4, 0, 8, 1, 2, 3, 7, 6, 5)), (5, 6, 7, 3, 2, 1, 8, 0, 4))

    def test_from_above_and_from_below_are_two_ways(self):
        order = Order(3, [(0, 1)])
        self.assertEqual([Above(order).done(line) for line in ((0, 1, 2), (0, 2, 1), (2, 0, 1))],
                         [(2, 0, 1), (0, 2, 1), (0, 1, 2)])
        differing = [line for many, pairs, line in lines_of_many_orders(5)
                     if Above(Order(many, pairs)).done(line) != Below(Order(many, pairs)).done(line)]
        self.assertTrue(differing)

    def test_kinds(self):
        for kind in LINE_KINDS:
            for order in (EXAMPLE, Order(4, [])):
                for told in (kind(order).done((0, 1, 2, 3)), kind(order).back((0, 1, 2, 3))):
                    self.assertIs(type(told), tuple)
                    self.assertTrue(all(is_whole(thing) for thing in told))


class NothingIsChangedTest(unittest.TestCase):
    def test_the_same_again_whatever_was_asked_between(self):
        chance = Random(5)
        asks = [(kind(EXAMPLE), way, one) for kind in KINDS for way in ("done", "back")
                for one in ((0, 1, 7) if kind is Great else ((0, 1, 2, 3), (0, 2, 1, 3)))]
        before = {at: getattr(turn, way)(one) for at, (turn, way, one) in enumerate(asks)}
        for at in [chance.randrange(len(asks)) for _ in range(200)]:
            turn, way, one = asks[at]
            self.assertEqual(getattr(turn, way)(one), before[at])
        self.assertEqual(EXAMPLE.covers(), [(0, 1), (0, 2), (1, 3), (2, 3)])


if __name__ == "__main__":
    unittest.main()
