"""Point 36: corner sums."""

import unittest

from sixviews.corners import corner_sum, dot_spots
from sixviews.errors import BrokenSeam, TooHeavy
from sixviews.paths import Path
from sixviews.pens import Pen
from sixviews.sheets import Sheet
from sixviews.spots import Spots
from sixviews.views import Views
from tests.helpers import BIG, STEP, refusal, some_rows, some_spots

SHEETS = [Sheet()] + [Sheet(some_rows(seed, 12)) for seed in range(8)]
F = [Spots([(0, 0, 1), (*STEP[j], -1)]) for j in range(3)]
FAR = 10 ** 40 - 1


def sum_of_point_36(views):
    """The corner sum, word by word."""
    return (
        -(F[0] * views[0]).moved(*STEP[1]) + (F[1] * views[1]).moved(*STEP[1]) - (F[2] * views[2]).moved(*STEP[1])
        - (F[0] * views[3]).moved(*STEP[2]) + F[1] * views[4] - (F[2] * views[5]).moved(*STEP[0])
    )


def dots_of(sheet):
    """The inks on the dots of the sheet."""
    return Spots([(x, y, ink) for x, y, kind, ink in sheet if kind == "d"])


class CornerSumTest(unittest.TestCase):
    def test_definition(self):
        for seed in range(6):
            views = Views([Spots(some_spots(10 * seed + view)) for view in range(6)])
            self.assertEqual(corner_sum(views=views), sum_of_point_36(views))

    def test_single_heaps(self):
        for view in range(6):
            heaps = [Spots()] * 6
            heaps[view] = Spots([(FAR, -BIG, FAR), (2, 3, -1)])
            self.assertEqual(corner_sum(Views(heaps)), sum_of_point_36(Views(heaps)))

    def test_sheets(self):
        for sheet in SHEETS:
            self.assertEqual(corner_sum(Views.of_sheet(sheet)), F[0] * F[1] * F[2] * dots_of(sheet))

    def test_sheets_without_dots(self):
        for kind in "enwuv":
            self.assertEqual(corner_sum(Views.of_sheet(Sheet([(BIG, 2, kind, 3)]))), Spots())

    def test_large_tables(self):
        views = Views.of_pen(Pen.even(FAR))
        self.assertEqual(corner_sum(views).many, 12)
        self.assertEqual(corner_sum(views), sum_of_point_36(views))

    def test_many_spots(self):
        sheet = Sheet([(x, y, "d", 1) for x in range(60) for y in range(60)])
        views = Views.of_sheet(sheet)
        self.assertGreater(views[0].many * 2, Spots.MOST)
        # A square of dots is the product of a row and a column.
        row = Spots([(0, 0, 1), (60, 0, -1)])
        column = Spots([(0, 0, 1), (0, 60, -1)])
        self.assertEqual(corner_sum(views), row * column * F[2])

    def test_broken_seams(self):
        heaps = [Spots([(0, 0, 1)])] + [Spots()] * 5
        self.assertEqual(list(corner_sum(Views(heaps))), [(0, 1, -1), (1, 1, 1)])

    def test_blank(self):
        self.assertEqual(corner_sum(Views([Spots()] * 6)), Spots())


class DotSpotsTest(unittest.TestCase):
    def test_sheets(self):
        for sheet in SHEETS:
            self.assertEqual(dot_spots(views=Views.of_sheet(sheet)), dots_of(sheet))

    def test_paths_and_pens(self):
        self.assertEqual(
            list(dot_spots(Views.of_path(Path([(0, 2), (3, 1)])))), [(0, 0, 1), (1, 0, 2), (2, 0, 1)],
        )
        self.assertEqual(dot_spots(Views.of_pen(Pen.even(2))).total, 19)
        self.assertEqual(dot_spots(Views.of_pen(Pen.even(-1))), Spots([(0, 0, 1)]))

    def test_bounds(self):
        views = Views.of_sheet(Sheet.dot(FAR, 0) + Sheet.dot(FAR + 399, 0))
        self.assertEqual(dot_spots(views).many, 2)
        # There is no dot in the one half of this box.
        views = Views.of_sheet(Sheet([(0, 0, "d", 1), (400, 0, "e", 1)]))
        self.assertEqual(refusal(self, TooHeavy, dot_spots, views).weight, 402)

    def test_broken_seams(self):
        heaps = [Spots([(FAR, 0, 1)])] * 2 + [Spots()] * 4
        views = Views(heaps)
        error = refusal(self, BrokenSeam, dot_spots, views)
        self.assertEqual((error.seam, error.line, error.here, error.there), views.broken()[0])
        self.assertEqual(list(views), heaps)


if __name__ == "__main__":
    unittest.main()
