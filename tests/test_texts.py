import unittest

from helper import covers_of, some_parts
from toggleclock.errors import NoPair, NoText
from toggleclock.orders import Order
from toggleclock.texts import order_text, read_order

EXAMPLE = "4 0<1 0<2 1<3 2<3"
EXAMPLE_PAIRS = [(0, 1), (0, 2), (1, 3), (2, 3)]


class ShownTest(unittest.TestCase):
    def test_the_example(self):
        self.assertEqual(order_text(Order(4, EXAMPLE_PAIRS)), EXAMPLE)

    def test_covers_alone_are_shown(self):
        self.assertEqual(order_text(Order(4, [(2, 3), (0, 3)] + EXAMPLE_PAIRS[::-1])), EXAMPLE)

    def test_without_pairs(self):
        for many in range(1, 10):
            self.assertEqual(order_text(Order(many, [])), str(many))

    def test_shown_and_read_lead_back(self):
        for many, pairs in some_parts():
            order = Order(many, pairs)
            shown = order_text(order)
            self.assertIs(type(shown), str)
            again = read_order(shown)
            self.assertIsInstance(again, Order)
            self.assertEqual((again.size(), again.covers()), (many, covers_of(many, pairs)))
            self.assertEqual(order_text(again), shown)
            self.assertEqual(order_text(order), shown)


class ReadTest(unittest.TestCase):
    def refused(self, text, at):
        with self.subTest(text=text):
            with self.assertRaises(NoText) as caught:
                read_order(text)
            self.assertEqual(caught.exception.at, at)

    def refused_pair(self, text, low, high):
        with self.subTest(text=text):
            with self.assertRaises(NoPair) as caught:
                read_order(text)
            self.assertEqual((caught.exception.low, caught.exception.high), (low, high))

    def test_the_example(self):
        order = read_order(EXAMPLE)
        self.assertEqual(order.size(), 4)
        self.assertEqual(order.covers(), EXAMPLE_PAIRS)

    def test_one_thing_and_nine(self):
        self.assertEqual(read_order("1").size(), 1)
        self.assertEqual(read_order("1").covers(), [])
        self.assertEqual(read_order("9").size(), 9)
        self.assertEqual(read_order("9 7<8 0<1").covers(), [(0, 1), (7, 8)])

    def test_any_pairs_in_any_order(self):
        for text in ("4 2<3 1<3 0<2 0<1", "4 0<3 2<3 1<3 0<3 0<2 0<1 0<1", EXAMPLE + " 0<3"):
            self.assertEqual(read_order(text).covers(), EXAMPLE_PAIRS)
            self.assertEqual(order_text(read_order(text)), EXAMPLE)

    def test_a_long_text(self):
        self.assertEqual(read_order("4" + " 0<1" * 249).covers(), [(0, 1)])

    def test_the_text_without_signs(self):
        self.refused("", 0)

    def test_blanks(self):
        self.refused(" ", 0)
        self.refused(" 4 0<1", 0)
        self.refused("4 ", 1)
        self.refused("4 0<1 ", 2)
        self.refused("4  0<1", 1)
        self.refused("4 0<1  1<2", 2)
        self.refused("4 0<1 1<2  ", 3)

    def test_the_first_word(self):
        for word in ("0", "10", "11", "12", "09", "a", "+4", "-4", "4.", "0<1", "<", "\t", "4\n", "\n4", "four"):
            self.refused(word, 0)
            self.refused(word + " 0<1", 0)

    def test_signs_that_are_no_figures_from_0_to_9(self):
        for sign in ("\u0664", "\uff14", "\u00b2", "\u0967", "\u2463"):
            self.refused(sign, 0)
            self.refused(f"4 0<1 {sign}<3", 2)
            self.refused(f"4 0<1 0<{sign}", 2)

    def test_further_words(self):
        wrong = ["0", "<", "0<", "<1", "01", "0<12", "10<1", "0<1<2", "0>1", "0-1", "a<1", "0<b", "0 <1", "0< 1", "0<<",
                 "<<1", "<<<", "0<1,", "0<1\n", "\t0<1", "0\t1", "-1<2", "0<-1", "0 1", "012", "0=1", " <1", "0< "]
        for word in wrong:
            self.refused(f"4 {word}", 1)
            self.refused(f"4 0<1 1<2 {word} 2<3", 3)

    def test_blanks_of_other_kinds_part_no_words(self):
        self.refused("4\t0<1", 0)
        self.refused("4\n0<1", 0)
        self.refused("4 0<1\t1<2", 1)
        self.refused("4 0<1\u00a01<2", 1)

    def test_the_first_of_several_words(self):
        self.refused("x y z", 0)
        self.refused("4 y z", 1)
        self.refused("4 0<1 z 1<2 y", 2)

    def test_what_is_written_so_but_no_pair(self):
        self.refused_pair("4 1<1", 1, 1)
        self.refused_pair("4 2<1", 2, 1)
        self.refused_pair("4 0<4", 0, 4)
        self.refused_pair("4 3<9", 3, 9)
        self.refused_pair("1 0<0", 0, 0)
        self.refused_pair("1 0<1", 0, 1)
        self.refused_pair("9 8<9", 8, 9)
        self.refused_pair("4 0<1 3<2 1<1", 3, 2)

    def test_a_wrong_word_goes_ahead_of_a_wrong_pair(self):
        self.refused("4 1<1 x", 2)
        self.refused("4 1<1 2<1 0<1 ", 4)
        self.refused("4 x 1<1", 1)
        self.refused("0 1<1", 0)
        self.refused("4 9<0  ", 2)

    def test_the_same_again(self):
        first = read_order(EXAMPLE)
        self.refused("4 x", 1)
        read_order("2 0<1")
        self.assertEqual(read_order(EXAMPLE).covers(), first.covers())
        self.assertEqual(order_text(first), EXAMPLE)


if __name__ == "__main__":
    unittest.main()
