"""Points 33 and 35: sheets and single inks that are read from tables of views."""

import unittest

from sixviews.errors import BadKind, BadSize, BrokenSeam, TooHeavy
from sixviews.paths import Path
from sixviews.pens import Pen
from sixviews.reading import drawn, ink_at, window
from sixviews.sheets import Sheet, turned_copies
from sixviews.spots import Spots
from sixviews.views import Views
from tests.helpers import (
    BIG, KIND_NAMES, cells_around, cells_in, corner_set, reaches_of_recipe, refusal, rows_of_pen, some_recipes,
    some_rows, walked_rows,
)

SHEETS = [Sheet()] + [Sheet(some_rows(seed)) for seed in range(12)]
FAR = 10 ** 40 - 1
BLANK = Views([Spots()] * 6)


def broken_table():
    """A table with several broken seams."""
    heaps = list(Views.of_sheet(SHEETS[1]))
    heaps[2] = heaps[2] + Spots([(1, 4, 5), (0, 0, -2)])
    return Views(heaps)


def filled_box(wide, high, left=0, bottom=0):
    """A sheet with other inks on all cells whose corners lie in the box."""
    cells = [
        (x, y, kind)
        for x in range(left, left + wide)
        for y in range(bottom, bottom + high)
        for kind in KIND_NAMES
        if all(left <= a < left + wide and bottom <= b < bottom + high for a, b in corner_set((x, y, kind)))
    ]
    return Sheet([(x, y, kind, at * at % 17 - 8) for at, (x, y, kind) in enumerate(cells)])


class RefusedTables:
    """Tests of what all calls that read a table refuse."""

    def refused_at_broken_seams(self, call, *args, **more):
        views = broken_table()
        before = [list(heap) for heap in views]
        error = refusal(self, BrokenSeam, call, views, *args, **more)
        self.assertEqual((error.seam, error.line, error.here, error.there), views.broken()[0])
        self.assertGreater(len(views.broken()), 1)
        self.assertEqual([list(heap) for heap in views], before)


class DrawnTest(unittest.TestCase, RefusedTables):
    def test_sheets_are_read_back(self):
        for sheet in SHEETS:
            self.assertEqual(drawn(views=Views.of_sheet(sheet)), sheet)

    def test_single_cells(self):
        for kind in KIND_NAMES:
            sheet = Sheet([(BIG, -FAR, kind, FAR)])
            self.assertEqual(drawn(Views.of_sheet(sheet)), sheet)

    def test_turned_tables(self):
        for code, copy in turned_copies(SHEETS[2]):
            self.assertEqual(drawn(Views.of_sheet(copy)), copy, code)

    def test_pens(self):
        for counts in some_recipes():
            reaches = reaches_of_recipe(counts)
            self.assertEqual(drawn(Views.of_pen(Pen(reaches))), Sheet(rows_of_pen(reaches)))

    def test_paths(self):
        for runs in ([], [(0, 3), (3, 5)], [(1, 2), (4, 1), (5, 3), (2, 2)], [(step, 2) for step in range(6)]):
            self.assertEqual(drawn(Views.of_path(Path(runs))), Sheet(walked_rows(runs)))

    def test_inside_out(self):
        for sheet in SHEETS:
            self.assertEqual(drawn(~Views.of_sheet(sheet)), ~sheet)

    def test_products(self):
        for first in SHEETS[:6]:
            for second in SHEETS[:6]:
                self.assertEqual(drawn(Views.of_sheet(first) * Views.of_sheet(second)), first * second)

    def test_boxes_of_400_places(self):
        for wide, high in ((20, 20), (400, 1), (1, 400), (16, 25)):
            for left, bottom in ((0, 0), (-FAR, FAR)):
                sheet = filled_box(wide, high, left, bottom)
                corners = Sheet([(left, bottom, "d", 1), (left + wide - 1, bottom + high - 1, "d", 1)]) * BIG
                views = Views.of_sheet(sheet + corners)
                self.assertEqual(views.box(), (left, bottom, left + wide - 1, bottom + high - 1))
                self.assertEqual(drawn(views), sheet + corners)

    def test_boxes_of_more_places(self):
        for x, y, places in ((400, 0, 401), (0, -400, 401), (20, 19, 420), (19, -20, 420), (FAR, FAR, 10 ** 80)):
            views = Views.of_sheet(Sheet.dot() + Sheet.dot(x, y))
            before = list(views)
            self.assertEqual(refusal(self, TooHeavy, drawn, views).weight, places)
            self.assertEqual(list(views), before)

    def test_the_box_is_that_of_all_views(self):
        # Each view alone has a small box, all together have a large one.
        views = Views.of_pen(Pen([20, 1, 0, 0, 0, 20]))
        self.assertEqual([heap.many for heap in views], [1] * 6)
        self.assertEqual(drawn(views), Sheet.of(*cells_in((20, 1, 0, 0, 0, 20))))
        self.assertEqual(refusal(self, TooHeavy, drawn, Views.of_pen(Pen([220, 20, 0, 0, 0, 200]))).weight, 201 * 21)

    def test_blank_table(self):
        self.assertEqual(drawn(BLANK), Sheet())

    def test_broken_seams(self):
        self.refused_at_broken_seams(drawn)

    def test_broken_seams_come_first(self):
        heaps = [Spots([(0, 0, 1), (FAR, FAR, 1)])] * 5 + [Spots()]
        error = refusal(self, BrokenSeam, drawn, Views(heaps))
        self.assertEqual((error.seam, error.line, error.here, error.there), (4, -FAR, 1, 0))


class InkAtTest(unittest.TestCase, RefusedTables):
    def test_sheets(self):
        for sheet in SHEETS[:6]:
            views = Views.of_sheet(sheet)
            for cell in cells_around(5):
                self.assertEqual(ink_at(views, cell), sheet[cell])

    def test_crowded_sheets(self):
        sheet = filled_box(6, 7, 4, -9)
        views = Views.of_sheet(sheet)
        for x, y, kind, ink in sheet:
            self.assertEqual(ink_at(views, (x, y, kind)), ink)

    def test_large_tables(self):
        # Two corners of a pen are FAR apart; its border is looked at from both sides.
        pen = Pen([FAR] * 6)
        views = Views.of_pen(pen)
        for place in pen.corners() + ((0, 0), (BIG, 0), (BIG, FAR - BIG), (-FAR, 17), (3 - FAR, FAR - 2)):
            for dx, dy, kind in cells_around(1):
                cell = (place[0] + dx, place[1] + dy, kind)
                self.assertEqual(ink_at(views, cell), 1 if pen.has(cell) else 0)
        self.assertEqual(ink_at(cell=(0, 0, "v"), views=views * BIG), BIG)

    def test_far_cells(self):
        views = Views.of_sheet(Sheet([(BIG, -FAR, "u", FAR), (0, 0, "w", -1)]))
        self.assertEqual(ink_at(views, (BIG, -FAR, "u")), FAR)
        self.assertEqual(ink_at(views, (0, 0, "w")), -1)
        for cell in ((BIG, -FAR, "d"), (BIG, -FAR, "v"), (BIG - 1, -FAR, "u"), (-BIG, FAR, "u"), (FAR, FAR, "e")):
            self.assertEqual(ink_at(views, cell), 0)

    def test_many_spots(self):
        sheet = Sheet([(x, y, "e", x - y) for x in range(-60, 60) for y in range(-10, 10)])
        views = Views.of_sheet(sheet)
        self.assertGreater(views[0].many, 2000)
        for cell in ((3, 4, "e"), (59, 9, "e"), (60, 9, "e"), (0, 0, "u"), (-60, 9, "e"), (7, 7, "e")):
            self.assertEqual(ink_at(views, cell), sheet[cell])

    def test_blank_table(self):
        self.assertEqual(ink_at(BLANK, (FAR, 0, "e")), 0)

    def test_refusals_and_their_order(self):
        self.refused_at_broken_seams(ink_at, (0, 0, "d"))
        self.refused_at_broken_seams(ink_at, (0, 0, "x"))
        for views in (BLANK, Views.of_sheet(SHEETS[3])):
            before = list(views)
            for kind in ("x", "", "D", "de"):
                self.assertEqual(refusal(self, BadKind, ink_at, views, (0, 0, kind)).kind, kind)
            self.assertEqual(list(views), before)


class WindowTest(unittest.TestCase, RefusedTables):
    def part(self, sheet, left, bottom, wide, high):
        """The part of the sheet in the window, by the own places of the cells."""
        return Sheet([row for row in sheet if left <= row[0] < left + wide and bottom <= row[1] < bottom + high])

    def test_sheets(self):
        for sheet in SHEETS[:5]:
            views = Views.of_sheet(sheet)
            for left, bottom, wide, high in ((-4, -4, 8, 8), (-1, 0, 1, 1), (0, -2, 3, 8), (2, 2, 8, 1), (9, 9, 4, 4)):
                found = window(views, left, bottom, wide=wide, high=high)
                self.assertEqual(found, self.part(sheet, left, bottom, wide, high))

    def test_crowded_sheets(self):
        sheet = filled_box(20, 20)
        views = Views.of_sheet(sheet)
        for left in (-3, 0, 6, 13):
            for bottom in (-7, 8, 15):
                self.assertEqual(window(views, left, bottom, wide=8, high=8), self.part(sheet, left, bottom, 8, 8))

    def test_4_is_the_default(self):
        views = Views.of_sheet(filled_box(9, 9))
        self.assertEqual(window(views, 2, 3), window(bottom=3, left=2, views=views, high=4, wide=4))
        self.assertEqual(window(views, 2, 3, wide=6), window(views, 2, 3, wide=6, high=4))
        self.assertEqual(window(views, 2, 3, high=6), window(views, 2, 3, wide=4, high=6))

    def test_windows_make_up_the_sheet(self):
        sheet = filled_box(12, 8)
        views = Views.of_sheet(sheet)
        total = Sheet()
        for left in range(0, 12, 3):
            for bottom in range(0, 8, 2):
                total = total + window(views, left, bottom, wide=3, high=2)
        self.assertEqual(total, sheet)

    def test_large_tables(self):
        pen = Pen([FAR] * 6)
        views = Views.of_pen(pen)
        for left, bottom in ((FAR - 3, -5), (-4, FAR - 4), (-FAR - 4, FAR - 4), (0, 0), (FAR, FAR)):
            cells = [(left + dx, bottom + dy, kind) for dx in range(8) for dy in range(8) for kind in KIND_NAMES]
            found = window(views, left, bottom, wide=8, high=8)
            self.assertEqual(found, Sheet.of(*[cell for cell in cells if pen.has(cell)]))

    def test_sizes_out_of_bounds(self):
        views = Views.of_sheet(SHEETS[1])
        before = list(views)
        for wide, high in ((0, 4), (9, 4), (4, 0), (4, 9), (-1, -1), (FAR, 1), (1, FAR)):
            error = refusal(self, BadSize, window, views, 0, 0, wide=wide, high=high)
            self.assertEqual((error.wide, error.high), (wide, high))
        error = refusal(self, BadSize, window, views, 0, 0, high=0)
        self.assertEqual((error.wide, error.high), (4, 0))
        self.assertEqual(list(views), before)

    def test_broken_seams_come_first(self):
        self.refused_at_broken_seams(window, 0, 0)
        self.refused_at_broken_seams(window, 0, 0, wide=0, high=9)

    def test_blank_table(self):
        self.assertEqual(window(BLANK, FAR, -FAR, wide=8, high=8), Sheet())


if __name__ == "__main__":
    unittest.main()
