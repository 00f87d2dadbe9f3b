"""Point 51: growths."""

import unittest

from sixviews.filled import sheet_of
from sixviews.growth import Growth, dot_growth, stroke_growth, triangle_growth
from sixviews.pens import Pen
from sixviews.sheets import Sheet, sweep_of
from sixviews.tufts import tuft
from tests.helpers import BIG, KIND_NAMES, reaches_of_recipe, refusal, some_rows

FAR = 10 ** 40 - 1
SHEETS = [Sheet(), Sheet.dot(), tuft(2, (1, -3))] + [Sheet(some_rows(seed)) for seed in range(5)]
PENS = [Pen(reaches_of_recipe(counts)) for counts in ((0, 0, 0, 0, 0), (1, 0, 0, 0, 0), (1, 0, 2, 0, 1), (0, 0, 0, 2, 1))]
CROSSED = [Pen([-1, 2, 0, 1, -2, 1]), Pen.even(-1), Pen([0, 0, 0, 0, 0, 1])]
CALLS = [(dot_growth, "dots"), (stroke_growth, "strokes"), (triangle_growth, "triangles")]


class GrowthTest(unittest.TestCase):
    def test_counted_cells(self):
        # Sweeps with multiples of the pen, also with crossed ones.
        for sheet in SHEETS:
            for pen in PENS + CROSSED:
                growths = [(call(sheet, pen), word) for call, word in CALLS]
                for n in range(-3, 4):
                    swept = sweep_of(sheet, sheet_of(pen * n))
                    for growth, word in growths:
                        self.assertEqual(growth(n), getattr(swept, word), (word, n))

    def test_halves(self):
        for sheet in SHEETS:
            for pen in PENS + CROSSED:
                for call, word in CALLS:
                    growth = call(sheet=sheet, pen=pen)
                    a, b, c = growth.halves
                    self.assertIs(type(growth.halves), tuple)
                    counts = [getattr(sweep_of(sheet, sheet_of(pen * n)), word) for n in (-1, 0, 1)]
                    self.assertEqual([(a - b + c) // 2, c // 2, (a + b + c) // 2], counts)
                    self.assertEqual([(a - b + c) % 2, c % 2, (a + b + c) % 2], [0, 0, 0])

    def test_growths_of_the_dot(self):
        # An even pen has 3 nn + 3 n + 1 dots, 9 nn + 3 n strokes and 6 nn triangles.
        growths = [call(Sheet.dot(), Pen.even(1)) for call, _ in CALLS]
        self.assertEqual([growth.halves for growth in growths], [(6, 6, 2), (18, 6, 0), (12, 0, 0)])
        self.assertEqual([growth(5) for growth in growths], [91, 240, 150])
        self.assertEqual([growth(-1) for growth in growths], [1, 6, 6])
        self.assertEqual([growth.halves for growth in [call(Sheet(), Pen.even(1)) for call, _ in CALLS]], [(0, 0, 0)] * 3)

    def test_single_cells(self):
        for kind in KIND_NAMES:
            sheet, pen = Sheet([(2, -1, kind, -3)]), Pen([2, 1, 0, 0, 0, 2])
            for call, word in CALLS:
                growth = call(sheet, pen)
                for n in (-2, -1, 0, 1, 2):
                    self.assertEqual(growth(n=n), getattr(sweep_of(sheet, sheet_of(pen * n)), word))

    def test_texts(self):
        self.assertEqual(dot_growth(Sheet.dot(), Pen.even(1)).text(), "(6 nn + 6 n + 2) / 2")
        self.assertEqual(dot_growth(Sheet.dot(), Pen.unit("u")).text(), "(1 nn + 3 n + 2) / 2")
        self.assertEqual(triangle_growth(-Sheet.dot(), Pen.unit("u")).text(), "(-2 nn + 0 n + 0) / 2")
        growth = dot_growth(Sheet.dot() * 3, Pen.unit("u")) - dot_growth(Sheet.of((0, 0, "d")), Pen.even(1))
        self.assertEqual(growth.text(), "(-3 nn + 3 n + 4) / 2")
        digits = stroke_growth(Sheet.dot(ink=FAR), Pen.even(10 ** 20)).text()
        self.assertEqual(digits, f"({18 * FAR * 10 ** 40} nn + {6 * FAR * 10 ** 20} n + 0) / 2")

    def test_sums_and_differences(self):
        for first in SHEETS[::2]:
            for second in SHEETS[1::3]:
                for pen in (PENS[2], CROSSED[0]):
                    for call, _ in CALLS:
                        mine, its = call(first, pen), call(second, pen)
                        self.assertEqual(mine + its, call(first + second, pen))
                        self.assertEqual(mine - its, call(first - second, pen))
                        self.assertEqual([(mine + its)(n) for n in (-7, 4)], [mine(n) + its(n) for n in (-7, 4)])
                        self.assertEqual([(mine - its)(n) for n in (-7, 4)], [mine(n) - its(n) for n in (-7, 4)])

    def test_dots_strokes_and_triangles(self):
        # Dots and triangles minus strokes are the Euler number, whatever n is.
        for sheet in SHEETS:
            pen = PENS[3]
            euler = dot_growth(sheet, pen) + triangle_growth(sheet, pen) - stroke_growth(sheet, pen)
            self.assertEqual(euler.halves, (0, 0, 2 * sheet.euler))

    def test_equality(self):
        growth = dot_growth(Sheet.dot(), Pen.even(1))
        self.assertTrue(growth == dot_growth(Sheet.dot(3, 4), Pen.even(1)))
        self.assertTrue(growth != stroke_growth(Sheet.dot(), Pen.even(1)))
        self.assertFalse(growth == triangle_growth(Sheet.dot(), Pen.even(1)))
        for other in (None, (6, 6, 2), 0, "", growth.text(), growth.halves):
            self.assertIs(growth == other, False)
            self.assertIs(growth != other, True)
        for half in range(3):
            halves = [6, 6, 2]
            halves[half] += 2
            self.assertTrue(growth != Growth(*halves))

    def test_large_numbers(self):
        sheet, pen = SHEETS[3].moved(FAR, -BIG) * FAR, Pen([FAR, BIG, 0, -FAR, 3, BIG])
        for call, word in CALLS:
            self.assertEqual(call(sheet, pen)(0), getattr(sheet, word))
        self.assertEqual(dot_growth(Sheet.dot(), Pen.even(FAR))(FAR), 3 * FAR ** 4 + 3 * FAR ** 2 + 1)
        self.assertEqual(dot_growth(Sheet.dot(), Pen.even(1))(-FAR), 3 * FAR ** 2 - 3 * FAR + 1)
        self.assertEqual(triangle_growth(SHEETS[3], pen)(BIG), triangle_growth(SHEETS[3], pen * BIG)(1))

    def test_nothing_changes(self):
        sheet, pen = Sheet(some_rows(3)), Pen([2, 1, 0, 0, 0, 2])
        rows = list(sheet)
        for call, _ in CALLS:
            growth = call(sheet, pen)
            halves = growth.halves
            growth(3), growth + growth, growth - growth, growth.text()
            self.assertEqual(growth.halves, halves)
        self.assertEqual((list(sheet), pen.reaches), (rows, (2, 1, 0, 0, 0, 2)))

    def test_other_operands(self):
        growth = dot_growth(Sheet.dot(), Pen.even(1))
        for other in (1, None, (1, 2, 3)):
            refusal(self, TypeError, lambda: growth + other)
            refusal(self, TypeError, lambda: growth - other)


if __name__ == "__main__":
    unittest.main()
