"""Points 20, 22 to 26, and the words of points 39 and 49 on sheets."""

import unittest

from sixviews.errors import BadKind, BadPower, BadText, TooHeavy
from sixviews.pens import Pen
from sixviews.sheets import Sheet, joined, sweep_of, swept, turned_copies
from sixviews.turnings import Turning
from tests.helpers import (
    BIG, KIND_NAMES, UNIT_REACHES, cells_around, corner_set, faces, heap_product, places_in, reaches_of_recipe,
    refusal, rows_of_pen, some_recipes, some_rows, view_of, views_of,
)

SHEETS = [Sheet(some_rows(seed)) for seed in range(8)]
WRONG_KINDS = ["x", "", "dd", "D"]


def line_of_dots(many, x=0):
    """A sheet with ink on so many dots."""
    return Sheet([(x + at, 0, "d", 1) for at in range(many)])


class InkTest(unittest.TestCase):
    def test_rows_are_added_and_sorted(self):
        sheet = Sheet([(1, 0, "e", 2), (0, 0, "w", 5), (1, 0, "e", -1), (0, 0, "d", 3), (0, 0, "w", -5)])
        self.assertEqual(list(sheet), [(0, 0, "d", 3), (1, 0, "e", 1)])
        self.assertEqual(sheet.many, 2)

    def test_rows_of_no_ink(self):
        self.assertEqual(list(Sheet([(0, 0, "d", 0), (1, 1, "e", 4), (1, 1, "e", -4)])), [])

    def test_blank_sheet(self):
        for blank in (Sheet(), Sheet([]), Sheet(rows=()), joined(), Sheet.of(), Sheet.dot(ink=0)):
            self.assertEqual(list(blank), [])
            self.assertIs(bool(blank), False)
            self.assertEqual([blank.many, blank.euler, blank.dots, blank.strokes, blank.triangles], [0] * 5)
        self.assertIs(bool(Sheet.dot()), True)

    def test_unknown_kinds(self):
        for kind in WRONG_KINDS:
            rows = [(0, 0, "d", 1), (5, 5, kind, 0), (0, 0, "other", 1)]
            self.assertEqual(refusal(self, BadKind, Sheet, rows).kind, kind)
            self.assertEqual(refusal(self, BadKind, Sheet.of, (0, 0, "e"), (0, 0, kind), (0, 0, "no")).kind, kind)
            self.assertEqual(refusal(self, BadKind, lambda at: Sheet()[at], (0, 0, kind)).kind, kind)
            self.assertEqual(refusal(self, BadKind, lambda cell: cell in Sheet(), (0, 0, kind)).kind, kind)

    def test_ink_of_a_cell(self):
        sheet = Sheet([(0, 0, "u", -4), (BIG, -BIG, "w", BIG)])
        self.assertEqual([sheet[0, 0, "u"], sheet[BIG, -BIG, "w"], sheet[0, 0, "d"], sheet[1, 0, "u"]], [-4, BIG, 0, 0])
        self.assertIs((0, 0, "u") in sheet, True)
        self.assertIs((0, 0, "v") in sheet, False)

    def test_of_and_dot(self):
        sheet = Sheet.of((0, 0, "e"), (0, 1, "v"), (0, 0, "e"))
        self.assertEqual(list(sheet), [(0, 0, "e", 2), (0, 1, "v", 1)])
        self.assertEqual(list(Sheet.dot()), [(0, 0, "d", 1)])
        self.assertEqual(list(Sheet.dot(3, -4, ink=-BIG)), [(3, -4, "d", -BIG)])
        self.assertEqual(list(Sheet.dot(y=2, x=1)), [(1, 2, "d", 1)])

    def test_sums_of_inks(self):
        sheet = Sheet([
            (0, 0, "d", 1), (9, 0, "d", 10), (0, 0, "e", 100), (0, 0, "n", 1000), (0, 0, "w", -10 ** 4),
            (0, 0, "u", 10 ** 5), (0, 0, "v", -10 ** 6),
        ])
        self.assertEqual([sheet.dots, sheet.strokes, sheet.triangles], [11, 1100 - 10 ** 4, 10 ** 5 - 10 ** 6])
        self.assertEqual(sheet.euler, 11 - 1100 + 10 ** 4 + 10 ** 5 - 10 ** 6)
        self.assertEqual(sheet.many, 7)

    def test_most(self):
        self.assertEqual(Sheet.MOST, 4000)
        self.assertEqual(Sheet.dot().MOST, 4000)

    def test_equality(self):
        first = Sheet([(0, 0, "d", 1), (1, 0, "d", 2)])
        self.assertTrue(first == Sheet([(1, 0, "d", 2), (0, 0, "d", 1)]))
        self.assertFalse(first != Sheet([(1, 0, "d", 2), (0, 0, "d", 1)]))
        for other in (Sheet(), Sheet.dot(), first * 2, first.moved(1, 0), first + Sheet.of((0, 0, "e"))):
            self.assertFalse(first == other)
            self.assertTrue(first != other)

    def test_iterating_twice(self):
        sheet = SHEETS[0]
        self.assertEqual(list(sheet), list(sheet))
        self.assertEqual(sum(1 for _ in sheet), sheet.many)


class SumsTest(unittest.TestCase):
    def test_sums_and_differences(self):
        for first in SHEETS:
            for second in SHEETS:
                total, gap = first + second, first - second
                for cell in cells_around(3):
                    self.assertEqual(total[cell], first[cell] + second[cell])
                    self.assertEqual(gap[cell], first[cell] - second[cell])
                self.assertEqual(second + gap, first)

    def test_multiples_from_both_sides(self):
        for sheet in SHEETS:
            for n in (0, 1, -1, 7, -BIG):
                expected = [(x, y, kind, ink * n) for x, y, kind, ink in sheet if n]
                self.assertEqual(list(sheet * n), expected)
                self.assertEqual(list(n * sheet), expected)
            self.assertEqual(-sheet, sheet * -1)

    def test_cancelling(self):
        for sheet in SHEETS:
            self.assertFalse(sheet - sheet)
            self.assertFalse(sheet + -sheet)

    def test_joined(self):
        self.assertEqual(joined(*SHEETS[:3]), SHEETS[0] + SHEETS[1] + SHEETS[2])
        self.assertEqual(joined(SHEETS[0]), SHEETS[0])
        self.assertEqual(joined(), Sheet())

    def test_other_kinds_of_operands(self):
        sheet = Sheet.dot()
        for wrong in (lambda: sheet + 1, lambda: sheet - 1, lambda: sheet * "2", lambda: "2" * sheet, lambda: 1 + sheet):
            with self.assertRaises(TypeError):
                wrong()
        self.assertEqual(list(sheet), [(0, 0, "d", 1)])


class SweepTest(unittest.TestCase):
    def test_example(self):
        stroke = Sheet.of((0, 0, "d"), (0, 0, "e"), (1, 0, "d"))
        self.assertEqual([stroke.euler, (~stroke).text(), (stroke * stroke).text()], [
            1, "0,0,e:-1", "0,0,d:1 0,0,e:1 1,0,d:1 1,0,e:1 2,0,d:1",
        ])

    def test_views_are_multiplied(self):
        for first in SHEETS:
            for second in SHEETS:
                expected = [heap_product(a, b) for a, b in zip(views_of(first), views_of(second))]
                self.assertEqual(views_of(first * second), expected)

    def test_laws(self):
        a, b, c = SHEETS[:3]
        self.assertEqual(a * b, b * a)
        self.assertEqual((a * b) * c, a * (b * c))
        self.assertEqual(a * (b + c), a * b + a * c)
        for sheet in SHEETS:
            self.assertEqual(sheet * Sheet.dot(), sheet)
            self.assertEqual(sheet * Sheet.dot(2, 3, ink=5), sheet.moved(2, 3) * 5)
            self.assertFalse(sheet * Sheet())

    def test_pens_are_added(self):
        recipes = some_recipes()
        for first in recipes[::5]:
            for second in recipes[::7]:
                reaches, others = reaches_of_recipe(first), reaches_of_recipe(second)
                both = [a + b for a, b in zip(reaches, others)]
                product = sweep_of(Sheet(rows_of_pen(reaches)), Sheet(rows_of_pen(others)))
                self.assertEqual(product, Sheet(rows_of_pen(both)))

    def test_euler_numbers_are_multiplied(self):
        for first in SHEETS:
            for second in SHEETS:
                self.assertEqual((first * second).euler, first.euler * second.euler)

    def test_large_places_and_inks(self):
        first = Sheet([(BIG, 0, "e", BIG), (0, -BIG, "d", -BIG)])
        second = Sheet([(-BIG, 7, "e", BIG)])
        self.assertEqual(list(first * second), [
            (-BIG, 7 - BIG, "e", -BIG ** 2), (0, 7, "e", -BIG ** 2), (1, 7, "d", -BIG ** 2), (1, 7, "e", -BIG ** 2),
        ])

    def test_weight_of_4000(self):
        self.assertEqual((line_of_dots(4000) * Sheet.dot()).many, 4000)
        self.assertEqual((line_of_dots(40) * line_of_dots(100)).many, 139)
        for first, second, weight in ((4001, 1, 4001), (1, 4001, 4001), (58, 69, 4002), (2001, 2, 4002)):
            error = refusal(self, TooHeavy, lambda a, b: a * b, line_of_dots(first), line_of_dots(second))
            self.assertEqual(error.weight, weight)

    def test_unbounded_sweep(self):
        self.assertEqual(sweep_of(line_of_dots(70), line_of_dots(70)).many, 139)

    def test_swept(self):
        a, b, c = SHEETS[:3]
        self.assertEqual(swept(a, b, c), a * b * c)
        self.assertEqual(swept(a), a)
        self.assertEqual(swept(), Sheet.dot())
        self.assertEqual(swept(Sheet(), a), Sheet())

    def test_swept_too_heavy(self):
        self.assertEqual(refusal(self, TooHeavy, swept, line_of_dots(4001)).weight, 4001)
        self.assertEqual(refusal(self, TooHeavy, swept, line_of_dots(100), line_of_dots(41)).weight, 4100)
        # The first two sheets sweep to 139 dots.
        sheets = [line_of_dots(100), line_of_dots(40), line_of_dots(29)]
        self.assertEqual(refusal(self, TooHeavy, swept, *sheets).weight, 139 * 29)
        self.assertEqual(swept(line_of_dots(4000)).many, 4000)


class PowersTest(unittest.TestCase):
    def test_small_powers(self):
        for sheet in (Sheet(), Sheet.dot(1, 2, ink=3), Sheet(some_rows(1, 4)), Sheet(some_rows(2, 4))):
            self.assertEqual(sheet.raised(0), Sheet.dot())
            self.assertEqual(sheet.raised(1), sheet)
            self.assertEqual(sheet.raised(2), sheet * sheet)
            self.assertEqual(sheet.raised(n=3), sheet * sheet * sheet)
            for n in range(4):
                self.assertEqual(sheet ** n, sheet.raised(n))

    def test_power_9(self):
        self.assertEqual(Sheet.dot(1, -1, ink=2) ** 9, Sheet.dot(9, -9, ink=512))
        self.assertEqual(Sheet(rows_of_pen(UNIT_REACHES["u"])).raised(9), Sheet(rows_of_pen([9, 9, 0, 0, 0, 9])))
        self.assertEqual(Sheet.dot(ink=BIG).raised(9), Sheet.dot(ink=BIG ** 9))

    def test_powers_that_there_are_not(self):
        for power in (-1, 10, 11, BIG, -BIG):
            self.assertEqual(refusal(self, BadPower, Sheet.dot().raised, power).power, power)
            self.assertEqual(refusal(self, BadPower, lambda n: Sheet() ** n, power).power, power)

    def test_too_heavy(self):
        heavy = line_of_dots(4001)
        self.assertEqual(heavy.raised(0), Sheet.dot())
        self.assertEqual(refusal(self, TooHeavy, heavy.raised, 1).weight, 4001)
        self.assertEqual(refusal(self, TooHeavy, line_of_dots(64).raised, 3).weight, 4096)
        self.assertEqual(refusal(self, TooHeavy, lambda n: line_of_dots(45) ** n, 5).weight, 89 * 45)
        self.assertEqual(refusal(self, BadPower, heavy.raised, 10).power, 10)

    def test_equal_squares(self):
        # The two sheets differ by the sign of one view alone: a tuft has one view only.
        tuft = Sheet([
            (x, y, kind, 1) for x, y, kind in cells_around(2)
            if max(corner_set((x, y, kind)), key=lambda corner: 2 * corner[0] + corner[1]) == (0, 0)
        ])
        self.assertEqual([view for view in range(6) if view_of(tuft, view)], [0])
        other = Sheet([
            (x, y, kind, 1) for x, y, kind in cells_around(2)
            if max(corner_set((x, y, kind)), key=lambda corner: corner[1] - corner[0]) == (0, 0)
        ])
        first, second = tuft + other, tuft - other
        self.assertNotEqual(first, second)
        self.assertNotEqual(first, -second)
        self.assertEqual(first ** 2, second ** 2)
        self.assertNotEqual((first + Sheet.dot()) ** 2, (second + Sheet.dot()) ** 2)


class InsideOutTest(unittest.TestCase):
    def test_cells(self):
        for cell in cells_around(1):
            sign = -1 if cell[2] in "enw" else 1
            self.assertEqual(~Sheet.of(cell), Sheet.of(*faces(cell)) * sign)

    def test_twice(self):
        for sheet in SHEETS:
            self.assertEqual(~~sheet, sheet)

    def test_sums_and_sweeps(self):
        for first in SHEETS[:4]:
            for second in SHEETS:
                self.assertEqual(~(first + second), ~first + ~second)
                self.assertEqual(~(first * second), ~first * ~second)
            self.assertEqual(~(first * 5), ~first * 5)

    def test_views_are_exchanged(self):
        for sheet in SHEETS:
            views = views_of(sheet)
            self.assertEqual(views_of(~sheet), views[3:] + views[:3])


class CarryingTest(unittest.TestCase):
    def test_moved(self):
        for sheet in SHEETS:
            self.assertEqual(list(sheet.moved(2, -5)), [(x + 2, y - 5, kind, ink) for x, y, kind, ink in sheet])
            self.assertEqual(sheet.moved(dx=BIG, dy=-BIG).moved(-BIG, BIG), sheet)

    def test_turned(self):
        for code in range(24):
            turning = Turning.coded(code)
            for sheet in SHEETS:
                carried = Sheet([turning.cell_to(row[:3]) + row[3:] for row in sheet])
                self.assertEqual(sheet.turned(turning), ~carried if code >= 12 else carried)

    def test_turned_pens(self):
        for code in range(12):
            turning = Turning.coded(code)
            for counts in some_recipes()[::9]:
                reaches = reaches_of_recipe(counts)
                turned = Pen(reaches).turned(turning).reaches
                self.assertEqual(Sheet(rows_of_pen(reaches)).turned(turning), Sheet(rows_of_pen(turned)))

    def test_an_inverted_half_turn_undoes_a_pen(self):
        for counts in some_recipes():
            sheet = Sheet(rows_of_pen(reaches_of_recipe(counts)))
            self.assertEqual(sweep_of(sheet, sheet.turned(Turning(3, inverted=True))), Sheet.dot())

    def test_turned_copies(self):
        sheet = SHEETS[0]
        copies = list(turned_copies(sheet))
        self.assertEqual([code for code, _ in copies], list(range(24)))
        for code, copy in copies:
            self.assertIsInstance(copies[code], tuple)
            self.assertEqual(copy, sheet.turned(Turning.coded(code)))

    def test_turned_copies_come_one_by_one(self):
        copies = turned_copies(Sheet.dot(1, 0))
        self.assertEqual(next(copies), (0, Sheet.dot(1, 0)))
        self.assertEqual(next(copies), (1, Sheet.dot(0, 1)))


class TextTest(unittest.TestCase):
    def test_texts(self):
        self.assertEqual(Sheet().text(), "blank")
        self.assertEqual(Sheet([(-1, 0, "e", 2)]).text(), "-1,0,e:2")
        rows = [(0, 0, "w", -1), (-2, 5, "d", 10), (0, 0, "d", 3), (-2, -5, "v", 1), (10, 0, "d", 1), (9, 0, "d", 1)]
        text = "-2,-5,v:1 -2,5,d:10 0,0,d:3 0,0,w:-1 9,0,d:1 10,0,d:1"
        self.assertEqual(Sheet(rows).text(), text)
        self.assertEqual(Sheet.read(text), Sheet(rows))

    def test_there_and_back(self):
        for sheet in SHEETS + [Sheet(), Sheet.dot(BIG, -BIG, ink=BIG)]:
            self.assertEqual(Sheet.read(sheet.text()), sheet)
            self.assertEqual(Sheet.read(text=sheet.text()).text(), sheet.text())

    def test_texts_that_are_not_accepted(self):
        for text, at in (
            ("", 0), (" ", 0), ("blank ", 0), (" blank", 0), ("blank blank", 0), ("0,0,d:1 blank", 1), ("Blank", 0),
            ("0,0,d:1 ", 1), (" 0,0,d:1", 0), ("0,0,d:1  0,0,e:1", 1), ("0,0,d:1\n0,0,e:1", 0), ("0,0,d:1\n", 0),
            ("0,0,d:0", 0), ("0,0,x:1", 0), ("0,0,:1", 0), ("0,0,dd:1", 0), ("0,0,D:1", 0), ("0,0,de:1", 0),
            ("0,0:1", 0), ("0,0,0,d:1", 0), ("0,0,d", 0), ("0,0,d:", 0), ("0,0,d:1:1", 0), ("0,0,d::1", 0), (":1", 0),
            ("0,0,d:+1", 0), ("0,0,d:01", 0), ("0,0,d:-01", 0), ("0,0,d:--1", 0), ("0,0,d:-", 0), ("0,0,d:1-", 0),
            ("-0,0,d:1", 0), ("0,-0,d:1", 0), ("00,0,d:1", 0), ("0,007,d:1", 0), ("0,0,d:-0", 0), ("0,0,d:1.0", 0),
            ("0,0,d:1_0", 0), ("0,0,d:1e3", 0), ("x,0,d:1", 0), ("0,y,d:1", 0), (",0,d:1", 0), ("0,,d:1", 0),
            ("0, 0,d:1", 0), ("0,0,d:0x1", 0), ("1,1,d:1 0,0,d:1", 1), ("0,0,d:1 0,0,d:1", 1), ("0,0,e:1 0,0,d:1", 1),
            ("0,1,d:1 0,0,d:1", 1), ("0,0,d:1 0,0,e:1 0,0,n:1 0,0,e:1", 3), ("0,0,d:1 1,0,d:1 1,0,e:0", 2),
            ("0,0,d:1 junk 0,0,d:1", 1), ("10,0,d:1 9,0,d:1", 1), ("-1,0,d:1 -2,0,d:1", 1), ("0,0,d:1,0", 0),
            ("2,0,d:1 1,0,d:1 0,0,x:1", 1), ("\u0661,0,d:1", 0), ("\u00b2,0,d:1", 0),
        ):
            self.assertEqual(refusal(self, BadText, Sheet.read, text).at, at, repr(text))

    def test_numbers_of_400_digits(self):
        long = "1" + "0" * 399
        for text in (f"{long},0,d:1", f"0,-{long},d:1", f"0,0,d:{long}", f"-{long},-{long},v:-{long}"):
            self.assertEqual(Sheet.read(text).text(), text)
        self.assertEqual(Sheet.read(f"0,0,d:{long}")[0, 0, "d"], 10 ** 399)

    def test_numbers_of_401_digits(self):
        for long in ("1" + "0" * 400, "-" + "9" * 401, "1" * 5000):
            for text in (f"{long},0,d:1", f"0,{long},d:1", f"0,0,d:{long}"):
                self.assertEqual(refusal(self, BadText, Sheet.read, text).at, 0)
                self.assertEqual(refusal(self, BadText, Sheet.read, "-9,9,w:9 " + text + " 5,5,d:5").at, 1)


class UnchangedTest(unittest.TestCase):
    def test_refused_calls_change_nothing(self):
        sheet = line_of_dots(70)
        before = list(sheet)
        refusal(self, TooHeavy, lambda: sheet * sheet)
        refusal(self, TooHeavy, sheet.raised, 2)
        refusal(self, TooHeavy, swept, sheet, sheet)
        refusal(self, BadPower, sheet.raised, -1)
        refusal(self, BadKind, lambda: sheet[0, 0, "?"])
        refusal(self, BadKind, lambda: (0, 0, "?") in sheet)
        self.assertEqual(list(sheet), before)

    def test_operators_change_nothing(self):
        first, second = SHEETS[:2]
        before = (list(first), list(second))
        for call in (
            lambda: first + second, lambda: first - second, lambda: -first, lambda: first * 2, lambda: 2 * first,
            lambda: first * second, lambda: ~first, lambda: first ** 2, lambda: first.moved(1, 1),
            lambda: first.turned(Turning(1)), lambda: joined(first, second), lambda: swept(first, second),
        ):
            call()
            self.assertEqual((list(first), list(second)), before)

    def test_sum_assigned_in_place_makes_a_new_sheet(self):
        sheet = Sheet.dot()
        other = sheet
        other += Sheet.dot(1, 0)
        self.assertEqual([sheet.many, other.many], [1, 2])

    def test_passed_lists_are_copied(self):
        rows = [(0, 0, "d", 1)]
        sheet = Sheet(rows)
        rows.append((1, 0, "d", 1))
        rows[0] = (5, 5, "e", 5)
        self.assertEqual(list(sheet), [(0, 0, "d", 1)])
        rows = [(0, 0, "d", 1), (0, 0, "d", 1)]
        Sheet(rows)
        self.assertEqual(rows, [(0, 0, "d", 1), (0, 0, "d", 1)])

    def test_places_of_a_pen(self):
        # A check of the helpers: each dot of the sheet of a pen is a place of the pen.
        for counts in some_recipes()[::11]:
            reaches = reaches_of_recipe(counts)
            dots = [(x, y) for x, y, kind, _ in rows_of_pen(reaches) if kind == "d"]
            self.assertEqual(dots, places_in(reaches))
        self.assertEqual(sorted(KIND_NAMES), KIND_NAMES)


if __name__ == "__main__":
    unittest.main()
