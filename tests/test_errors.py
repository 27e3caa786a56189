import inspect
import unittest

from toggleclock import errors
from toggleclock.errors import (
    NoCount, NoDownset, NoField, NoLine, NoNumber, NoPair, NoPlace, NoRow, NoText, NothingDone, NoThing, ToggleError,
    TooMany)

WITH_VALUES = [
    (NoCount, ["number"], [10]),
    (NoPair, ["low", "high"], [7, 3]),
    (NoThing, ["thing"], [-1]),
    (NoText, ["at"], [4]),
    (NoDownset, ["bits"], [10 ** 59]),
    (NoPlace, ["place"], [512]),
    (NoRow, ["row"], ["no such row"]),
]
WITH_TEXT = [NoLine, TooMany, NoNumber, NoField, NothingDone]
ALL = [kind for kind, names, values in WITH_VALUES] + WITH_TEXT


def made():
    return [kind(*values) for kind, names, values in WITH_VALUES] + [kind("so it is") for kind in WITH_TEXT]


class ErrorsTest(unittest.TestCase):
    def test_there_are_twelve(self):
        held = [value for value in vars(errors).values() if inspect.isclass(value)]
        self.assertEqual(set(held), set(ALL) | {ToggleError})
        self.assertEqual(len(ALL), 12)

    def test_values_in_the_told_order(self):
        for kind, names, values in WITH_VALUES:
            with self.subTest(kind=kind):
                refusal = kind(*values)
                self.assertEqual([getattr(refusal, name) for name in names], values)
                self.assertEqual(list(inspect.signature(kind).parameters), names)

    def test_made_with_a_text(self):
        for kind in WITH_TEXT:
            with self.subTest(kind=kind):
                self.assertEqual(str(kind("so it is")), "so it is")

    def test_each_is_a_toggle_error_and_a_value_error(self):
        for refusal in made():
            with self.subTest(refusal=refusal):
                self.assertIsInstance(refusal, ToggleError)
                self.assertIsInstance(refusal, ValueError)

    def test_none_is_one_of_the_others(self):
        for refusal in made():
            held = [kind for kind in ALL if isinstance(refusal, kind)]
            self.assertEqual(held, [type(refusal)])

    def test_each_stands_right_under_toggle_error(self):
        self.assertEqual(ToggleError.__bases__, (ValueError,))
        for kind in ALL:
            self.assertEqual(kind.__bases__, (ToggleError,))

    def test_raised_and_taken(self):
        for refusal in made():
            with self.assertRaises(ToggleError) as caught:
                raise refusal
            self.assertIs(caught.exception, refusal)


if __name__ == "__main__":
    unittest.main()
