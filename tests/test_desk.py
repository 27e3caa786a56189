import unittest
from random import Random

from helper import FIELDS
from toggleclock.desk import Desk
from toggleclock.downsets import brim, downset_at, how_many, place_of, things_of
from toggleclock.errors import NoField, NoPair, NoPlace, NoRow, NoText, NothingDone, NoThing, ToggleError
from toggleclock.fields import field, stairs
from toggleclock.fractions import mean
from toggleclock.lines import how_many_lines, line_at, number_of
from toggleclock.orders import Order
from toggleclock.polys import by_falls, by_size
from toggleclock.rounds import round_of
from toggleclock.texts import order_text, read_order
from toggleclock.toggles import swapped, toggled
from toggleclock.turns import Above, Below, Great, Slide

ASKED = ["show", "counts", "where", "round", "mean", "sizes", "falls"]
MOVES = ["great", "ungreat", "slide", "unslide", "above", "below"]
NUMBERED = ["stairs", "down", "toggle", "line", "swap"]
EXAMPLE_ROW = "order 4 0<1 0<2 1<3 2<3"
FIRST_ANSWERS = ["1", "2 1", "0 0", "2", "1/2 1/2", "1 1", "1"]

# 1 in the figures of other scripts, and signs near them that Python's own tests for digits or numbers take.
OTHER_FIGURES = ["\u0661", "\u06f1", "\u0967", "\uff11", "\u00b9", "\u2081", "\u2460", "\u00bd", "\u4e00", "\U0001d7cf"]
NO_NUMBERS = ["00", "01", "000000", "000001", "012345", "+1", "-1", "+0", "-0", "1000000", "1234567", "0000000",
              "9" * 60, "1.0", "1e2", "1_0", "0x1", "one", "a", "1a", "a1", "1\n", "\n1", "1\t", "\t", "1,", "'1'",
              ""] + OTHER_FIGURES + ["1" + figure for figure in OTHER_FIGURES]

NO_ROWS = [
    "", " ", "  ", "order", "Order 1", "ORDER 1", "orders 1", " order 1", "ord er 1", "order\t1", "order\n1", "order:1",
    "field", "field 1", "field 1 1 1", "field  1 1", "field 1  1", " field 1 1", "field 1 1 ", "Field 1 1", "field 1,1",
    "stairs", "stairs 1 1", "stairs  1", "stairs 1 ", " stairs 1", "Stairs 1", "stair 1",
    "down", "down 0 0", "down  0", "down 0 ", " down 0", "downs 0", "toggle", "toggle 0 0", "toggle  0", "toggle 0 ",
    "line", "line 0 0", "line  0", "line 0 ", " line 0", "swap", "swap 0 0", "swap  0", "swap 0 ", " swap 0",
    "great 0", "great ", " great", "Great", "great great", "ungreat 1", "un great", "slide 1", "slide ", "unslide 0",
    "above 0", "above ", "below 0", " below", "undo 1", "undo ", " undo", "Undo", "undo undo", "redo", "great\n",
    "show 1", "show ", " show", "Show", "show show", "counts ", "counts 1", "where 0", " where", "round 0", "round ",
    "mean 1", " mean", "sizes 1", "sizes ", "falls 0", "falls ", "show\n", "\tshow", "undo\n", "ready", "help", "-",
    "0", "4 0<1 0<2 1<3 2<3", "1", "gr\u00e9at", "\u043erder 1", "great\u00a0", "field\u00a01\u00a01", "x" * 1000]


def at_rows(rows):
    desk = Desk()
    for row in rows:
        desk.told(row)
    return desk


def answers(desk, rows):
    return [desk.told(row) for row in rows]


class PlainDesk:
    """A second desk, which does by the functions of the program what the document says of each row."""

    def __init__(self):
        self.state, self.past = (Order(1, []), 0, (0,)), []

    def made(self, row):
        name, _, rest = row.partition(" ")
        if name == "order":
            return read_order(rest)
        numbers = [int(word) for word in rest.split(" ")]
        return field(*numbers) if name == "field" else stairs(*numbers)

    def new_bits(self, row):
        order, bits, _ = self.state
        name, _, rest = row.partition(" ")
        if name == "down":
            return downset_at(order, int(rest))
        if name == "toggle":
            return toggled(order, bits, int(rest))
        return Great(order).done(bits) if name == "great" else Great(order).back(bits)

    def new_line(self, row):
        order, _, line = self.state
        name, _, rest = row.partition(" ")
        if name == "line":
            return line_at(order, int(rest))
        if name == "swap":
            return swapped(order, line, int(rest))
        if name in ("slide", "unslide"):
            return Slide(order).done(line) if name == "slide" else Slide(order).back(line)
        return Above(order).done(line) if name == "above" else Below(order).done(line)

    def asked(self, row):
        order, bits, line = self.state
        circle = round_of(Great(order), bits)
        sizes = mean([len(things_of(one)) for one in circle])
        brims = mean([len(things_of(brim(order, one))) for one in circle])
        return {
            "show": order_text(order), "counts": f"{how_many(order)} {how_many_lines(order)}",
            "where": f"{place_of(order, bits)} {number_of(order, line)}", "round": str(len(circle)),
            "mean": f"{sizes.shown()} {brims.shown()}", "sizes": " ".join(map(str, by_size(order))),
            "falls": " ".join(map(str, by_falls(order)))}[row]

    def told(self, row):
        order, bits, line = self.state
        name = row.partition(" ")[0]
        if name in ASKED:
            return self.asked(row)
        if name == "undo":
            if not self.past:
                raise NothingDone("")
            self.state = self.past.pop()
            return "ready"
        if name in ("order", "field", "stairs"):
            made = self.made(row)
            after, answer = (made, 0, tuple(range(made.size()))), order_text(made)
        elif name in ("down", "toggle", "great", "ungreat"):
            new = self.new_bits(row)
            after, answer = (order, new, line), "".join(map(str, things_of(new))) or "-"
        else:
            new = self.new_line(row)
            after, answer = (order, bits, new), "".join(map(str, new))
        self.past.append(self.state)
        self.state = after
        return answer


class DeskCase(unittest.TestCase):
    def hold_refused(self, desk, asked, kind, **values):
        """The row asked is refused so, and what the desk keeps stays."""
        before = answers(desk, ASKED)
        with self.assertRaises(kind) as caught:
            desk.told(asked)
        self.assertIs(type(caught.exception), kind)
        for name, value in values.items():
            self.assertEqual(getattr(caught.exception, name), value)
        self.assertEqual(answers(desk, ASKED), before)

    def hold_undone(self, desk, many):
        """So many rows can be undone, and not one more."""
        self.assertEqual(answers(desk, ["undo"] * many), ["ready"] * many)
        self.hold_refused(desk, "undo", NothingDone)


class FirstStateTest(DeskCase):
    def test_one_thing(self):
        self.assertEqual(answers(Desk(), ASKED), FIRST_ANSWERS)

    def test_nothing_to_undo(self):
        self.hold_undone(Desk(), 0)

    def test_rows_on_it(self):
        rows = ["great", "great", "ungreat", "ungreat", "toggle 0", "toggle 0", "down 1", "down 0"]
        self.assertEqual(answers(Desk(), rows), ["0", "-", "0", "-", "0", "-", "0", "-"])
        self.assertEqual(answers(Desk(), ["slide", "unslide", "above", "below", "line 0"]), ["0"] * 5)
        self.hold_refused(Desk(), "swap 0", NoPlace, place=0)
        self.hold_refused(Desk(), "line 1", NoPlace, place=1)
        self.hold_refused(Desk(), "down 2", NoPlace, place=2)
        self.hold_refused(Desk(), "toggle 1", NoThing, thing=1)


class OrderRowsTest(DeskCase):
    def test_order(self):
        for row, answer in ((EXAMPLE_ROW, "4 0<1 0<2 1<3 2<3"), ("order 1", "1"), ("order 9", "9"),
                            ("order 4 2<3 0<3 1<3 0<1 0<2 0<1", "4 0<1 0<2 1<3 2<3"),
                            ("order 3 0<1 1<2 0<2", "3 0<1 1<2")):
            desk = Desk()
            self.assertEqual(desk.told(row), answer)
            self.assertEqual(answers(desk, ["show", "where"]), [answer, "0 0"])

    def test_field_and_stairs(self):
        for a, b in FIELDS:
            self.assertEqual(Desk().told(f"field {a} {b}"), order_text(field(a, b)))
        for k in (1, 2, 3):
            self.assertEqual(Desk().told(f"stairs {k}"), order_text(stairs(k)))
        self.assertEqual(Desk().told("field 2 3"), "6 0<1 0<3 1<2 1<4 2<5 3<4 4<5")

    def test_downset_and_line_are_the_first_ones_again(self):
        for row in (EXAMPLE_ROW, "field 2 2", "stairs 2", "order 4"):
            desk = at_rows(["order 4", "down 3", "line 5", row])
            self.assertEqual(desk.told("where"), "0 0")
            self.assertEqual(answers(desk, ["ungreat", "great"])[1], "-")
            self.assertEqual(answers(desk, ["above", "above"])[1], "012" if row == "stairs 2" else "0123")

    def test_texts_that_are_not_so_written(self):
        for text, at in (("", 0), (" ", 0), (" 1", 0), ("  ", 0), ("0", 0), ("10", 0), ("x", 0), ("-1", 0), ("+1", 0),
                         ("2  0<1", 1), ("2 ", 1), ("2 0<1 ", 2), ("2 0<1 x", 2), ("2 0-1", 1), ("2 0<10", 1),
                         ("2\t0<1", 0), ("3 0<1\n", 1), ("1\n", 0), ("3 1<0 0<", 2), ("\u0661", 0),
                         ("2 0<\u0661", 1), ("TEXT", 0)):
            self.hold_refused(at_rows([EXAMPLE_ROW, "great", "slide"]), "order " + text, NoText, at=at)

    def test_pairs_that_are_none(self):
        for text, low, high in (("2 1<0", 1, 0), ("1 0<0", 0, 0), ("1 0<1", 0, 1), ("4 0<1 2<9 3<0", 2, 9),
                                ("9 0<9", 0, 9)):
            self.hold_refused(at_rows([EXAMPLE_ROW, "great", "slide"]), "order " + text, NoPair, low=low, high=high)

    def test_no_fields(self):
        for row in ("field 0 0", "field 0 1", "field 1 0", "field 2 5", "field 5 2", "field 10 1", "field 1 10",
                    "field 999999 999999", "field 0 999999", "stairs 0", "stairs 4", "stairs 5", "stairs 999999"):
            self.hold_refused(at_rows([EXAMPLE_ROW, "great", "slide"]), row, NoField)


class DownsetRowsTest(DeskCase):
    def test_down(self):
        desk = at_rows([EXAMPLE_ROW])
        self.assertEqual(answers(desk, [f"down {place}" for place in range(6)]), ["-", "0", "01", "02", "012", "0123"])
        self.assertEqual(desk.told("where"), "5 0")
        self.assertEqual(at_rows(["order 9"]).told("down 511"), "012345678")

    def test_toggle(self):
        desk = at_rows([EXAMPLE_ROW])
        rows = [f"toggle {thing}" for thing in (3, 0, 2, 0, 1, 3, 1, 3, 2)]
        self.assertEqual(answers(desk, rows), ["-", "0", "02", "02", "012", "0123", "0123", "012", "01"])

    def test_great_and_ungreat(self):
        desk = at_rows([EXAMPLE_ROW])
        self.assertEqual(answers(desk, ["great"] * 4), ["0", "012", "0123", "-"])
        self.assertEqual(answers(desk, ["ungreat"] * 4), ["0123", "012", "0", "-"])
        self.assertEqual(answers(desk, ["down 2", "great", "great"]), ["01", "02", "01"])

    def test_the_line_stays(self):
        desk = at_rows(["order 4 0<1", "line 7"])
        for row in ("down 5", "toggle 2", "great", "ungreat"):
            desk.told(row)
            self.assertEqual(desk.told("where").split(" ")[1], "7")

    def test_refusals(self):
        for place in (6, 7, 10, 999999):
            self.hold_refused(at_rows([EXAMPLE_ROW, "great"]), f"down {place}", NoPlace, place=place)
        for thing in (4, 9, 10, 999999):
            self.hold_refused(at_rows([EXAMPLE_ROW, "great"]), f"toggle {thing}", NoThing, thing=thing)
        self.hold_refused(at_rows(["order 9"]), "down 512", NoPlace, place=512)


class LineRowsTest(DeskCase):
    def test_line(self):
        self.assertEqual(answers(at_rows([EXAMPLE_ROW]), ["line 1", "line 0"]), ["0213", "0123"])
        desk = at_rows(["order 9"])
        self.assertEqual(answers(desk, ["line 362879", "where", "line 100000"]),
                         ["876543210", "0 362879", "247815603"])

    def test_swap(self):
        desk = at_rows([EXAMPLE_ROW])
        self.assertEqual(answers(desk, ["swap 0", "swap 1", "swap 2", "swap 1"]), ["0123", "0213", "0213", "0123"])

    def test_slide_and_turning_over(self):
        desk = at_rows(["order 3 0<1", "line 2"])
        rows = ["slide", "slide", "slide", "unslide", "line 0", "above", "above", "below", "below"]
        self.assertEqual(answers(desk, rows),
                         ["012", "021", "201", "021", "012", "201", "012", "201", "012"])

    def test_above_is_not_below(self):
        desk, order = at_rows(["stairs 3"]), stairs(3)
        for number in range(16):
            line = line_at(order, number)
            for name, turn in (("above", Above(order)), ("below", Below(order))):
                desk.told(f"line {number}")
                self.assertEqual(desk.told(name), "".join(map(str, turn.done(line))))
        self.assertNotEqual(at_rows(["stairs 3"]).told("above"), at_rows(["stairs 3"]).told("below"))

    def test_the_downset_stays(self):
        desk = at_rows(["order 4 0<1", "down 5"])
        for row in ("line 7", "swap 1", "slide", "unslide", "above", "below"):
            desk.told(row)
            self.assertEqual(desk.told("where").split(" ")[0], "5")

    def test_refusals(self):
        for place in (2, 3, 10, 999999):
            self.hold_refused(at_rows([EXAMPLE_ROW, "slide"]), f"line {place}", NoPlace, place=place)
        for place in (3, 4, 10, 999999):
            self.hold_refused(at_rows([EXAMPLE_ROW, "slide"]), f"swap {place}", NoPlace, place=place)
        self.hold_refused(at_rows(["order 9"]), "line 362880", NoPlace, place=362880)


class AskedTest(DeskCase):
    def test_the_example(self):
        desk = at_rows([EXAMPLE_ROW])
        expected = ["4 0<1 0<2 1<3 2<3", "6 2", "0 0", "4", "2 1", "1 1 2 1 1", "1 1 0 0"]
        self.assertEqual(answers(desk, ASKED), expected)
        desk.told("down 2")
        desk.told("line 1")
        self.assertEqual(answers(desk, ASKED), expected[:2] + ["2 1", "2"] + expected[4:])

    def test_a_field(self):
        expected = ["20 42", "0 0", "6", "9/2 3/2", "1 1 2 3 3 3 3 2 1 1", "1 10 20 10 1 0 0 0 0"]
        self.assertEqual(answers(at_rows(["field 3 3"]), ASKED[1:]), expected)

    def test_nine_things_with_nothing_below_anything(self):
        desk = at_rows(["order 9", "down 7"])
        self.assertEqual(answers(desk, ASKED), [
            "9", "512 362880", "7 0", "2", "9/2 9/2", "1 9 36 84 126 126 84 36 9 1",
            "1 502 14608 88234 156190 88234 14608 502 1"])

    def test_means_that_differ_from_round_to_round(self):
        desk = at_rows(["order 3 0<2 1<2"])
        self.assertEqual(answers(desk, ["mean", "down 1", "mean", "round"]), ["5/3 1", "0", "1 1", "2"])

    def test_nothing_is_changed(self):
        desk = at_rows([EXAMPLE_ROW, "great", "slide"])
        before = answers(desk, ASKED)
        self.assertEqual(answers(desk, ASKED * 3), before * 3)
        self.hold_undone(desk, 3)


class NoRowTest(DeskCase):
    def test_rows_that_are_none(self):
        for row in NO_ROWS:
            with self.subTest(row=row):
                self.hold_refused(at_rows(["order 4", "down 3", "line 5"]), row, NoRow, row=row)
                self.hold_refused(Desk(), row, NoRow, row=row)

    def test_numbers_that_are_not_so_written(self):
        desk = at_rows(["order 3", "down 3", "line 5"])
        for number in NO_NUMBERS:
            rows = [f"{name} {number}" for name in NUMBERED] + [f"field {number} 1", f"field 1 {number}"]
            for row in rows:
                with self.subTest(row=row):
                    self.hold_refused(desk, row, NoRow, row=row)
        self.hold_undone(desk, 3)

    def test_numbers_of_one_to_six_figures(self):
        desk = at_rows(["order 9"])
        for number in (0, 1, 9, 10, 99, 100, 999, 1000, 9999, 10000, 99999, 100000, 362879):
            self.assertEqual(desk.told(f"line {number}"), "".join(map(str, line_at(Order(9, []), number))))
        for number in (0, 9, 10, 99, 100, 511):
            self.assertEqual(desk.told(f"down {number}"), "".join(map(str, things_of(number))) or "-")
        for number in (1000, 99999, 100000, 999999):
            self.hold_refused(desk, f"down {number}", NoPlace, place=number)

    def test_undo_with_more_words_undoes_nothing(self):
        desk = at_rows(["great"])
        self.hold_refused(desk, "undo 1", NoRow, row="undo 1")
        self.hold_undone(desk, 1)


class UndoTest(DeskCase):
    ROWS = ["great", "order 4 0<1", "down 5", "line 7", "toggle 2", "swap 1", "field 2 3", "slide", "ungreat",
            "stairs 3", "above", "below", "great", "unslide", "down 3", "line 4"]

    def test_step_by_step_to_the_first_state(self):
        desk, seen = Desk(), []
        for row in self.ROWS:
            seen.append(answers(desk, ASKED))
            desk.told(row)
        for before in reversed(seen):
            self.assertEqual(desk.told("undo"), "ready")
            self.assertEqual(answers(desk, ASKED), before)
        self.assertEqual(answers(desk, ASKED), FIRST_ANSWERS)
        self.hold_undone(desk, 0)
        self.hold_undone(desk, 0)

    def test_rows_that_changed_nothing_are_undone_too(self):
        desk = at_rows([EXAMPLE_ROW, "toggle 3", "swap 0", "down 0", "line 0", EXAMPLE_ROW, "above"])
        self.assertEqual(desk.told("where"), "0 0")
        self.assertEqual(answers(desk, ["undo"] * 6 + ["show"]), ["ready"] * 6 + ["4 0<1 0<2 1<3 2<3"])
        self.hold_undone(desk, 1)

    def test_rows_behind_an_undo(self):
        desk = at_rows([EXAMPLE_ROW, "great", "great"])
        rows = ["undo", "toggle 1", "undo", "undo", "where"]
        self.assertEqual(answers(desk, rows), ["ready", "01", "ready", "ready", "0 0"])
        self.hold_undone(desk, 1)
        self.assertEqual(answers(desk, ["great", "undo"]), ["0", "ready"])
        self.hold_undone(desk, 0)

    def test_refused_rows_are_not_undone(self):
        wrong = ["order 2 1<0", "order x", "order ", "field 5 5", "stairs 4", "down 99", "toggle 9", "line 99",
                 "swap 9", "nothing", "undo 1", "show 1"]
        desk, seen = Desk(), []
        for row in self.ROWS:
            seen.append(answers(desk, ASKED))
            desk.told(row)
            for refused in wrong:
                self.hold_refused(desk, refused, self.refusal(refused))
        for before in reversed(seen):
            self.assertEqual(desk.told("undo"), "ready")
            self.assertEqual(answers(desk, ASKED), before)
        self.hold_undone(desk, 0)

    def refusal(self, row):
        name = row.split(" ")[0]
        if row in ("nothing", "undo 1", "show 1"):
            return NoRow
        if name == "order":
            return NoPair if "<" in row else NoText
        return NoField if name in ("field", "stairs") else NoThing if name == "toggle" else NoPlace

    def test_a_refused_undo_changes_nothing(self):
        desk = Desk()
        self.hold_refused(desk, "undo", NothingDone)
        self.assertEqual(answers(desk, ["great", "undo", "where"]), ["0", "ready", "0 0"])

    def test_many_steps(self):
        desk = at_rows(["field 3 3"] + ["great", "slide"] * 1500)
        self.hold_undone(desk, 3001)
        self.assertEqual(answers(desk, ASKED), FIRST_ANSWERS)


class TwoDesksTest(DeskCase):
    def test_beside_one_another(self):
        one, other = Desk(), Desk()
        one.told(EXAMPLE_ROW)
        self.assertEqual(answers(other, ASKED), FIRST_ANSWERS)
        self.hold_refused(other, "undo", NothingDone)
        other.told("stairs 2")
        one.told("great")
        other.told("slide")
        self.assertEqual(answers(one, ["show", "where"]), ["4 0<1 0<2 1<3 2<3", "1 0"])
        self.assertEqual(answers(other, ["show", "where"]), ["3 0<1 0<2", "0 1"])
        self.hold_undone(one, 2)
        self.assertEqual(answers(other, ["show", "where"]), ["3 0<1 0<2", "0 1"])
        self.hold_undone(other, 2)
        self.assertEqual(answers(Desk(), ASKED), FIRST_ANSWERS)

    def test_the_same_rows_have_the_same_answers(self):
        rows = UndoTest.ROWS + ASKED + ["undo"] * 5 + ASKED
        one, other = Desk(), Desk()
        self.assertEqual([one.told(row) for row in rows], [other.told(row) for row in rows])


class AgainstAPlainDeskTest(DeskCase):
    def some_row(self, chance):
        number = chance.choice((0, 0, 1, 1, 2, 2, 3, 4, 5, 6, 9, 30, 511, 5000, 999999))
        return chance.choice(
            ASKED + MOVES * 3 + [f"{name} {number}" for name in NUMBERED[1:]] * 3 + ["undo"] * 5
            + ["field {} {}".format(*chance.choice(FIELDS)), "stairs 3", "stairs 2", f"stairs {number}", "field 2 5",
               "order 6 0<2 1<2 1<3 2<4 3<5", "order 9 0<8", "order 5 4<1", "order 5 0<1  1<2", "order "])

    def told(self, desk, row):
        try:
            answer = desk.told(row)
        except ToggleError as refusal:
            return type(refusal), dict(vars(refusal))
        self.assertIs(type(answer), str)
        return answer

    def test_many_rows(self):
        for seed in range(12):
            chance, desk, plain = Random(seed), Desk(), PlainDesk()
            for _ in range(150):
                row = self.some_row(chance)
                self.assertEqual(self.told(desk, row), self.told(plain, row), row)


if __name__ == "__main__":
    unittest.main()
