"""Points 15 to 17, 23 and 32: sheets of pens; and what points 26 and 27 say of them."""

import random
import unittest

from sixviews.cuts import lower, lower_pen
from sixviews.errors import NotDrawn, Nowhere, TooHeavy
from sixviews.filled import inside_of, sheet_of
from sixviews.pens import Pen
from sixviews.sheets import Sheet, sweep_of
from sixviews.turnings import Turning
from sixviews.views import Views
from tests.helpers import (
    BIG, LINES, cells_in, corner_set, reaches_of_recipe, refusal, rows_of_pen, some_recipes,
)

FAR = 10 ** 40 - 1


def some_reaches(seed, many=20, size=3):
    """Reaches of pens, many of them crossed; the same ones for the same seed."""
    dice = random.Random(seed)
    return [tuple(dice.randint(-size, size) for _ in range(6)) for _ in range(many)]


def inner(reaches):
    """The cells that lie inside the drawn pen, by point 16 alone."""
    found = []
    for cell in cells_in(reaches):
        lines = [{LINES[seam](*corner) for corner in corner_set(cell)} for seam in range(6)]
        border = [
            seam for seam in range(6)
            if reaches[seam] + reaches[(seam + 3) % 6] > 0 and lines[seam] == {reaches[seam]}
        ]
        if not border:
            found.append(cell)
    return found


class SheetOfTest(unittest.TestCase):
    def test_drawn_pens(self):
        for counts in some_recipes():
            reaches = reaches_of_recipe(counts)
            self.assertEqual(sheet_of(pen=Pen(reaches)), Sheet(rows_of_pen(reaches)))

    def test_views(self):
        for reaches in some_reaches(1):
            pen = Pen(reaches)
            self.assertEqual(Views.of_sheet(sheet_of(pen)), Views.of_pen(pen))

    def test_sums_of_drawn_pens(self):
        pens = [Pen(reaches_of_recipe(counts)) for counts in some_recipes()[::7]]
        for first in pens:
            for second in pens:
                self.assertEqual(sheet_of(first + second), sweep_of(sheet_of(first), sheet_of(second)))

    def test_sums_of_crossed_pens(self):
        pens = [Pen(reaches) for reaches in some_reaches(2, 8)]
        self.assertIn(False, [pen.is_drawn for pen in pens])
        for first in pens:
            for second in pens + [Pen.even(2), Pen.unit("u") * 3]:
                self.assertEqual(sheet_of(first + second), sweep_of(sheet_of(first), sheet_of(second)))

    def test_a_crossed_pen_is_told_by_drawn_ones(self):
        # The sheet X of a crossed pen C is the one with X swept with P = C + P, for drawn pens P and C + P.
        wide = Pen.even(4)
        for reaches in some_reaches(3, 40, 2):
            pen = Pen(reaches)
            if (pen + wide).is_drawn:
                self.assertEqual(sweep_of(sheet_of(pen), Sheet(rows_of_pen(wide.reaches))), sheet_of(pen + wide))

    def test_opposite_pens_undo_one_another(self):
        for reaches in some_reaches(4, 10):
            self.assertEqual(sweep_of(sheet_of(Pen(reaches)), sheet_of(-Pen(reaches))), Sheet.dot())
        self.assertEqual(sheet_of(Pen.even(0)), Sheet.dot())

    def test_crossed_pens(self):
        self.assertEqual(sheet_of(-Pen.unit("e")).text(), "-1,0,e:-1")
        self.assertEqual(sheet_of(Pen.even(-1)), Sheet.of(*inner((1,) * 6)))
        self.assertEqual(sheet_of(Pen([0, 1, 0, 0, 0, 0])).triangles, Pen([0, 1, 0, 0, 0, 0]).area)

    def test_counts(self):
        for reaches in some_reaches(5):
            pen = Pen(reaches)
            sheet = sheet_of(pen)
            self.assertEqual((sheet.euler, sheet.triangles), (1, pen.area))

    def test_moved(self):
        for reaches in some_reaches(6):
            pen = Pen(reaches)
            self.assertEqual(sheet_of(pen.moved(2, -FAR)), sheet_of(pen).moved(2, -FAR))

    def test_turned(self):
        for reaches in some_reaches(7, 6):
            pen = Pen(reaches)
            sheet = sheet_of(pen)
            for code in range(24):
                turning = Turning.coded(code)
                self.assertEqual(sheet_of(pen.turned(turning)), sheet.turned(turning))

    def test_boxes_of_400_places(self):
        pen = Pen.around([(0, 0), (19, 0), (0, 19), (19, 19)]).moved(BIG, -BIG)
        self.assertEqual(sheet_of(pen).dots, 400)
        self.assertEqual(sheet_of(Pen.unit("e") * 399).many, 799)
        self.assertEqual(sheet_of(Pen.unit("n") * -399).many, 797)

    def test_boxes_of_more_places(self):
        cases = [
            (Pen.unit("e") * 400, 401), (Pen.unit("n") * -400, 401), (Pen.even(10), 441), (Pen.even(-10), 441),
            (Pen.unit("u") * 20, 441), (Pen.even(FAR), (2 * FAR + 1) ** 2), (Pen([0, 0, 0, 0, 0, 20]), 21 * 21),
        ]
        for pen, places in cases:
            before = pen.reaches
            self.assertEqual(refusal(self, TooHeavy, sheet_of, pen).weight, places)
            self.assertEqual(pen.reaches, before)

    def test_the_box_may_have_more_places_than_the_cells(self):
        # 21 dots and 20 strokes only, but their box has 21 * 21 places.
        pen = Pen.unit("w") * 20
        self.assertEqual(len(cells_in(pen.reaches)), 41)
        for call in (sheet_of, inside_of):
            self.assertEqual(refusal(self, TooHeavy, call, pen).weight, 441)
        self.assertEqual(sheet_of(Pen.unit("w") * 19).many, 39)
        # The corners of this crossed pen lie further out than its cells have their own places.
        crossed = -Pen.around([(0, 0), (20, 0), (0, 19), (20, 19)])
        self.assertEqual(refusal(self, TooHeavy, sheet_of, crossed).weight, 420)


class InsideOfTest(unittest.TestCase):
    def test_drawn_pens(self):
        for counts in some_recipes():
            pen = Pen(reaches_of_recipe(counts)).moved(-2, 1)
            self.assertEqual(inside_of(pen=pen), Sheet.of(*inner(pen.reaches)))

    def test_dimensions(self):
        self.assertEqual(inside_of(Pen.even(0).moved(3, 4)).text(), "3,4,d:1")
        self.assertEqual(inside_of(Pen.unit("e") * 2).text(), "0,0,e:1 1,0,d:1 1,0,e:1")
        self.assertEqual(inside_of(Pen.unit("v")).text(), "0,0,v:1")

    def test_inside_out(self):
        # Inside out, the sheet of a drawn pen keeps the cells inside it, with the sign of its dimension.
        for counts in some_recipes():
            pen = Pen(reaches_of_recipe(counts))
            sign = -1 if pen.dimension() == 1 else 1
            self.assertEqual(~sheet_of(pen), inside_of(pen) * sign)

    def test_bounds(self):
        square = Pen.around([(0, 0), (19, 0), (0, 19), (19, 19)])
        self.assertEqual(inside_of(square.moved(FAR, FAR)).dots, 18 * 18)
        self.assertEqual(refusal(self, TooHeavy, inside_of, Pen.even(FAR)).weight, (2 * FAR + 1) ** 2)
        self.assertEqual(refusal(self, TooHeavy, inside_of, Pen.unit("n") * 400).weight, 401)

    def test_crossed_pens(self):
        for reaches, side in (((0, 5, 0, 0, 0, 0), 1), ((FAR, 0, 0, 0, 0, 0), 0), ((1, 1, 1, 1, 1, 3), 5)):
            pen = Pen(reaches)
            self.assertEqual(refusal(self, NotDrawn, inside_of, pen).side, side)
            self.assertEqual(pen.reaches, reaches)


class LowerPenTest(unittest.TestCase):
    def test_sheets(self):
        # Point 27: the sheet of the lower pen is the lower part of the sheet.
        for counts in some_recipes()[::3]:
            pen = Pen(reaches_of_recipe(counts))
            for seam in range(6):
                for line in range(-3, 5):
                    part = lower(sheet_of(pen), seam, line)
                    if part:
                        self.assertEqual(sheet_of(lower_pen(pen, seam, line)), part)
                    else:
                        refusal(self, Nowhere, lower_pen, pen, seam, line)


if __name__ == "__main__":
    unittest.main()
