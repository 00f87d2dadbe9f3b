"""Point 27: sheets and pens that are cut."""

import unittest

from sixviews.cuts import band, lower, lower_pen, slice_at, upper
from sixviews.errors import BadView, NotDrawn, Nowhere
from sixviews.pens import Pen
from sixviews.sheets import Sheet
from tests.helpers import (
    BIG, LINES, cells_around, cells_in, corner_set, reaches_of_recipe, refusal, rows_of_pen, some_recipes, some_rows,
)

SHEETS = [Sheet.of(*cells_around(2))] + [Sheet(some_rows(seed)) for seed in range(4)]


def kept(sheet, seam, wanted):
    """The rows of the sheet of which the set of the line numbers of the corners is wanted."""
    return [row for row in sheet if wanted({LINES[seam](*corner) for corner in corner_set(row[:3])})]


class CutSheetsTest(unittest.TestCase):
    def test_parts(self):
        for sheet in SHEETS:
            for seam in range(6):
                for line in range(-4, 5):
                    low, high = lower(sheet, seam, line), upper(sheet, seam, line)
                    self.assertEqual(list(low), kept(sheet, seam, lambda lines: max(lines) <= line))
                    self.assertEqual(list(high), kept(sheet, seam, lambda lines: max(lines) > line))
                    self.assertEqual(low + high, sheet)
                    self.assertEqual(list(slice_at(sheet, seam, line)), kept(sheet, seam, lambda lines: lines == {line}))
                    self.assertEqual(
                        list(band(sheet, seam, line)), kept(sheet, seam, lambda lines: lines == {line, line + 1}),
                    )

    def test_slices_and_bands_make_up_the_sheet(self):
        for sheet in SHEETS:
            for seam in range(6):
                total = Sheet()
                for line in range(-9, 10):
                    total = total + slice_at(sheet, seam, line) + band(sheet, seam, line)
                self.assertEqual(total, sheet)

    def test_cells(self):
        sheet = Sheet.of((0, 0, "d"), (0, 0, "e"), (0, 0, "n"), (0, 0, "w"), (0, 0, "u"), (0, 0, "v"))
        self.assertEqual(lower(sheet, 1).text(), "0,0,d:1 0,0,e:1")
        self.assertEqual(upper(sheet, 1).text(), "0,0,n:1 0,0,u:1 0,0,v:1 0,0,w:1")
        self.assertEqual(slice_at(sheet, 0).text(), "0,0,d:1 0,0,w:1")
        self.assertEqual(band(sheet, 5, -1).text(), "0,0,v:1 0,0,w:1")
        self.assertEqual(band(sheet, 5).text(), "0,0,e:1 0,0,u:1")

    def test_line_0_is_the_default(self):
        for call in (lower, upper, slice_at, band):
            for sheet in SHEETS:
                self.assertEqual(call(sheet, 4), call(line=0, seam=4, sheet=sheet))

    def test_lines_beyond_all_cells(self):
        for sheet in SHEETS:
            for seam in range(6):
                for far in (10, 10 ** 40 - 1):
                    self.assertEqual([lower(sheet, seam, far), upper(sheet, seam, far)], [sheet, Sheet()])
                    self.assertEqual([lower(sheet, seam, -far), upper(sheet, seam, -far)], [Sheet(), sheet])
                    self.assertEqual([slice_at(sheet, seam, far), band(sheet, seam, far)], [Sheet(), Sheet()])

    def test_large_places(self):
        sheet = Sheet([(BIG, 1, "e", BIG), (0, BIG, "n", -BIG)])
        self.assertEqual(band(sheet, 5, BIG).text(), Sheet([(BIG, 1, "e", BIG)]).text())
        self.assertEqual(lower(sheet, 1, BIG), Sheet([(BIG, 1, "e", BIG)]))
        self.assertEqual(slice_at(sheet, 1, 1), Sheet([(BIG, 1, "e", BIG)]))

    def test_seams_that_there_are_not(self):
        for call in (lower, upper, slice_at, band):
            for seam in (-1, 6, BIG):
                for sheet in (Sheet(), SHEETS[1]):
                    before = list(sheet)
                    self.assertEqual(refusal(self, BadView, call, sheet, seam).view, seam)
                    self.assertEqual(list(sheet), before)


class LowerPenTest(unittest.TestCase):
    def test_small_pens(self):
        for counts in some_recipes():
            pen = Pen(reaches_of_recipe(counts)).moved(1, -1)
            cells = Sheet.of(*cells_in(pen.reaches))
            for seam in range(6):
                for line in range(-pen.reaches[seam - 3] - 2, pen.reaches[seam] + 2):
                    part = lower(cells, seam, line)
                    if not part:
                        refusal(self, Nowhere, lower_pen, pen, seam, line)
                        continue
                    found = lower_pen(pen, seam, line)
                    self.assertTrue(found.is_drawn)
                    self.assertEqual(Sheet(rows_of_pen(found.reaches)), part)
                    places = [(x, y) for x, y, kind, _ in part if kind == "d"]
                    self.assertEqual(found, Pen.around(places))

    def test_large_pens(self):
        pen = Pen.even(BIG)
        self.assertEqual(lower_pen(pen, 0, -BIG).reaches, (-BIG, 0, BIG, BIG, BIG, 0))
        self.assertEqual(lower_pen(pen, 0, 1).reaches, (1, BIG, BIG, BIG, BIG, BIG))
        self.assertEqual(lower_pen(pen, 2, -7).reaches, (BIG, BIG - 7, -7, BIG - 7, BIG, BIG))
        self.assertEqual(lower_pen(line=10 ** 40 - 1, seam=3, pen=pen), pen)
        refusal(self, Nowhere, lower_pen, pen, 0, -BIG - 1)

    def test_line_0_is_the_default(self):
        self.assertEqual(lower_pen(Pen.even(2), 1), lower_pen(Pen.even(2), 1, 0))

    def test_refusals_and_their_order(self):
        crossed, drawn = Pen([0, 5, 0, 0, 0, 0]), Pen.even(1)
        self.assertEqual(refusal(self, NotDrawn, lower_pen, crossed, 0).side, 1)
        self.assertEqual(refusal(self, NotDrawn, lower_pen, crossed, 9).side, 1)
        for seam in (-1, 6):
            self.assertEqual(refusal(self, BadView, lower_pen, drawn, seam, -99).view, seam)
        refusal(self, Nowhere, lower_pen, drawn, 5, -2)
        self.assertEqual([crossed.reaches, drawn.reaches], [(0, 5, 0, 0, 0, 0), (1,) * 6])


if __name__ == "__main__":
    unittest.main()
