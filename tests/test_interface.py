import inspect
import unittest

from toggleclock import desk, downsets, fields, fractions, lines, orders, polys, rounds, texts, toggles, turns

FUNCTIONS = [
    (texts.order_text, ["order"]),
    (texts.read_order, ["text"]),
    (downsets.things_of, ["bits"]),
    (downsets.set_of, ["things"]),
    (downsets.is_downset, ["order", "bits"]),
    (downsets.brim, ["order", "bits"]),
    (downsets.doors, ["order", "bits"]),
    (downsets.downsets, ["order"]),
    (downsets.how_many, ["order"]),
    (downsets.place_of, ["order", "bits"]),
    (downsets.downset_at, ["order", "place"]),
    (lines.is_line, ["order", "line"]),
    (lines.how_many_lines, ["order"]),
    (lines.lines, ["order"]),
    (lines.number_of, ["order", "line"]),
    (lines.line_at, ["order", "number"]),
    (toggles.toggled, ["order", "bits", "thing"]),
    (toggles.walked, ["order", "bits", "word"]),
    (toggles.walker, ["order", "word"]),
    (toggles.swapped, ["order", "line", "place"]),
    (toggles.led, ["order", "line", "word"]),
    (toggles.leader, ["order", "word"]),
    (fractions.mean, ["numbers"]),
    (fractions.Fraction.same, ["self", "other"]),
    (fractions.Fraction.shown, ["self"]),
    (rounds.round_of, ["turn", "one"]),
    (rounds.all_rounds, ["turn", "ones"]),
    (rounds.lengths, ["rounds"]),
    (fields.field, ["a", "b"]),
    (fields.stairs, ["k"]),
    (fields.size_mean, ["a", "b"]),
    (fields.brim_mean, ["a", "b"]),
    (fields.flipped, ["k", "line"]),
    (polys.by_size, ["order"]),
    (polys.by_falls, ["order"]),
    (polys.folded, ["poly", "m"]),
    (polys.lengths_ahead, ["a", "b"]),
    (polys.nested, ["order", "m"]),
    (polys.chosen, ["x", "y"]),
    (desk.Desk, []),
    (desk.Desk.told, ["self", "row"]),
    (turns.Turn, ["order"]),
    (orders.Order, ["many", "pairs"]),
    (orders.Order.size, ["self"]),
    (orders.Order.below, ["self", "one", "other"]),
    (orders.Order.covers, ["self"]),
    (orders.Order.just_below, ["self", "thing"]),
    (orders.Order.just_above, ["self", "thing"]),
]
for kind in (turns.Great, turns.Slide, turns.Above, turns.Below):
    FUNCTIONS += [(kind, ["order"]), (kind.done, ["self", "one"]), (kind.back, ["self", "one"]), (kind.word, ["self"])]


class InterfaceTest(unittest.TestCase):
    def test_arguments(self):
        for function, names in FUNCTIONS:
            with self.subTest(function=function):
                parameters = inspect.signature(function).parameters
                self.assertEqual(list(parameters), names)
                self.assertTrue(all(one.default is inspect.Parameter.empty for one in parameters.values()))

    def test_the_bottom_may_be_left_out(self):
        parameters = inspect.signature(fractions.Fraction).parameters
        self.assertEqual([(name, one.default) for name, one in parameters.items()],
                         [("top", inspect.Parameter.empty), ("bottom", 1)])

    def test_made_by_name(self):
        order = orders.Order(many=2, pairs=[(0, 1)])
        self.assertEqual(toggles.toggled(order=order, bits=0, thing=0), 1)
        self.assertEqual(toggles.swapped(order=order, line=(0, 1), place=0), (0, 1))
        self.assertEqual(turns.Great(order=order).done(one=0), 1)
        self.assertEqual(fractions.Fraction(top=2, bottom=4).shown(), "1/2")
        self.assertEqual(rounds.all_rounds(turn=turns.Great(order), ones=[0, 1, 3]), [[0, 1, 3]])
        self.assertEqual(fields.flipped(k=2, line=(0, 1, 2)), (0, 2, 1))
        self.assertEqual(polys.folded(poly=[1, 2, 3], m=2), [4, 2])
        self.assertEqual(desk.Desk().told(row="show"), "1")


if __name__ == "__main__":
    unittest.main()
