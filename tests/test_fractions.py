import fractions as outer
import unittest
from math import gcd
from random import Random

from helper import is_whole
from toggleclock.errors import NoNumber
from toggleclock.fractions import Fraction, mean


def parts(fraction):
    return fraction.top, fraction.bottom


class FractionTest(unittest.TestCase):
    def hold_lowest(self, top, bottom):
        made, expected = Fraction(top, bottom), outer.Fraction(top, bottom)
        self.assertEqual(parts(made), (expected.numerator, expected.denominator))
        self.assertTrue(is_whole(made.top) and is_whole(made.bottom))
        self.assertGreaterEqual(made.bottom, 1)
        self.assertEqual(gcd(made.top, made.bottom), 1)

    def test_lowest_terms_of_small_numbers(self):
        for top in range(-30, 31):
            for bottom in list(range(-30, 0)) + list(range(1, 31)):
                self.hold_lowest(top, bottom)

    def test_lowest_terms_of_long_numbers(self):
        chance = Random(22)
        for figures in (10, 30, 59, 60):
            for _ in range(50):
                most = 10 ** figures - 1
                self.hold_lowest(chance.randint(-most, most), chance.randint(1, most))
                self.hold_lowest(chance.randint(-most, most), -chance.randint(1, most))
                shared = chance.randint(1, 10 ** (figures // 2))
                self.hold_lowest(shared * chance.randint(-999, 999), shared * chance.randint(1, 999))
        most = 10 ** 60 - 1
        self.assertEqual(parts(Fraction(most, most)), (1, 1))
        self.assertEqual(parts(Fraction(-most, most)), (-1, 1))
        self.assertEqual(parts(Fraction(most - 1, most)), (most - 1, most))

    def test_signs(self):
        self.assertEqual(parts(Fraction(6, 4)), (3, 2))
        self.assertEqual(parts(Fraction(-6, 4)), (-3, 2))
        self.assertEqual(parts(Fraction(6, -4)), (-3, 2))
        self.assertEqual(parts(Fraction(-6, -4)), (3, 2))
        self.assertEqual(parts(Fraction(6, -3)), (-2, 1))

    def test_nought_on_top(self):
        for bottom in (1, -1, 7, -7, 10 ** 59, -(10 ** 59)):
            self.assertEqual(parts(Fraction(0, bottom)), (0, 1))

    def test_the_bottom_left_out(self):
        for top in (0, 1, -1, 12, -12, 10 ** 59):
            self.assertEqual(parts(Fraction(top)), (top, 1))

    def test_a_bottom_of_0(self):
        for top in (0, 1, -1, 5, 10 ** 59):
            with self.assertRaises(NoNumber):
                Fraction(top, 0)

    def test_shown(self):
        for top, bottom, text in ((3, 1, "3"), (-1, 2, "-1/2"), (0, 1, "0"), (6, 2, "3"), (2, -4, "-1/2"), (0, -5, "0"),
                                  (7, 3, "7/3"), (-7, -3, "7/3"), (-4, 1, "-4"), (4, -4, "-1"), (1, 10, "1/10")):
            self.assertEqual(Fraction(top, bottom).shown(), text)
            self.assertIs(type(Fraction(top, bottom).shown()), str)
        self.assertEqual(Fraction(12).shown(), "12")
        self.assertEqual(Fraction(-(10 ** 59), 10 ** 59 - 1).shown(), f"-{10 ** 59}/{10 ** 59 - 1}")

    def test_same(self):
        self.assertIs(Fraction(1, 2).same(Fraction(-3, -6)), True)
        self.assertIs(Fraction(1, 2).same(Fraction(-1, 2)), False)
        self.assertIs(Fraction(1, 2).same(Fraction(1, 3)), False)
        self.assertIs(Fraction(1, 2).same(Fraction(3, 2)), False)
        self.assertIs(Fraction(2, 3).same(Fraction(3, 2)), False)
        self.assertIs(Fraction(0, 5).same(Fraction(0, -3)), True)
        self.assertIs(Fraction(4, 2).same(Fraction(2)), True)
        one = Fraction(7, 9)
        self.assertIs(one.same(one), True)

    def test_asking_changes_nothing(self):
        one, other = Fraction(6, -4), Fraction(1, 2)
        for _ in range(3):
            self.assertEqual((one.shown(), one.same(other), parts(one), parts(other)), ("-3/2", False, (-3, 2), (1, 2)))


class MeanTest(unittest.TestCase):
    def hold_mean(self, numbers, top, bottom):
        found = mean(numbers)
        self.assertIsInstance(found, Fraction)
        self.assertEqual(parts(found), (top, bottom))

    def test_one_number(self):
        for number in (0, 1, -1, 7, 10 ** 59, -(10 ** 59)):
            self.hold_mean([number], number, 1)

    def test_several(self):
        self.hold_mean([1, 2], 3, 2)
        self.hold_mean([1, 2, 3], 2, 1)
        self.hold_mean([5, 0, 0, 1], 3, 2)
        self.hold_mean([4, 4, 4], 4, 1)
        self.hold_mean([10 ** 59, 1], 10 ** 59 + 1, 2)
        self.hold_mean(list(range(1000)), 999, 2)

    def test_numbers_below_0(self):
        self.hold_mean([-1, -2], -3, 2)
        self.hold_mean([-1, 1], 0, 1)
        self.hold_mean([-5, 1, 2], -2, 3)

    def test_the_list_handed_in_stays(self):
        numbers = [3, -1, 3, 2]
        found = mean(numbers)
        self.assertEqual(numbers, [3, -1, 3, 2])
        numbers.append(100)
        self.assertEqual(parts(found), (7, 4))
        self.assertEqual(parts(mean([3, -1, 3, 2])), (7, 4))


if __name__ == "__main__":
    unittest.main()
