import inspect
import unittest

from toggleclock import downsets, orders, texts

FUNCTIONS = [
    (texts.order_text, ["order"]),
    (texts.read_order, ["text"]),
    (downsets.things_of, ["bits"]),
    (downsets.set_of, ["things"]),
    (downsets.is_downset, ["order", "bits"]),
    (downsets.brim, ["order", "bits"]),
    (downsets.doors, ["order", "bits"]),
    (downsets.downsets, ["order"]),
    (downsets.how_many, ["order"]),
    (downsets.place_of, ["order", "bits"]),
    (downsets.downset_at, ["order", "place"]),
    (orders.Order, ["many", "pairs"]),
    (orders.Order.size, ["self"]),
    (orders.Order.below, ["self", "one", "other"]),
    (orders.Order.covers, ["self"]),
    (orders.Order.just_below, ["self", "thing"]),
    (orders.Order.just_above, ["self", "thing"]),
]


class InterfaceTest(unittest.TestCase):
    def test_arguments(self):
        for function, names in FUNCTIONS:
            with self.subTest(function=function):
                parameters = inspect.signature(function).parameters
                self.assertEqual(list(parameters), names)
                self.assertTrue(all(one.default is inspect.Parameter.empty for one in parameters.values()))


if __name__ == "__main__":
    unittest.main()
