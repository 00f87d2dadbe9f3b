"""Point 46: tufts."""

import unittest

from sixviews.errors import BadView, NotAlone, TooHeavy
from sixviews.sheets import Sheet, joined
from sixviews.spots import Spots
from sixviews.tufts import seen_alone, spots_of, tuft, tufted
from sixviews.views import Views
from tests.helpers import BIG, HEIGHTS, STEP, cells_around, corner_set, refusal, some_rows, some_spots, views_of

FAR = 10 ** 40 - 1
HEAPS = [Spots()] + [Spots(some_spots(seed)) for seed in range(6)]


def hanging_cells(view, x, y):
    """The cells that hang from the place, found by search."""
    found = []
    for a, b, kind in cells_around(2):
        corners = [(x + c, y + d) for c, d in corner_set((a, b, kind))]
        if max(corners, key=lambda place: HEIGHTS[view](*place)) == (x, y):
            found.append((x + a, y + b, kind))
    return found


class TuftTest(unittest.TestCase):
    def test_cells(self):
        for view in range(6):
            for x, y in ((0, 0), (3, -2), (FAR, -BIG)):
                cells = hanging_cells(view, x, y)
                self.assertEqual(len(cells), 6)
                self.assertEqual(tuft(view=view, place=(x, y)), Sheet.of(*cells))

    def test_views(self):
        for view in range(6):
            views = Views.of_sheet(tuft(view, (5, BIG)))
            minus = [(5 - STEP[k % 6][0], BIG - STEP[k % 6][1]) for k in (view, view - 1, view + 1)]
            expected = Spots([(5, BIG, 1), (*minus[0], 1), (*minus[1], -1), (*minus[2], -1)])
            self.assertEqual(list(views), [expected if other == view else Spots() for other in range(6)])

    def test_views_that_there_are_not(self):
        for view in (-1, 6, BIG):
            self.assertEqual(refusal(self, BadView, tuft, view, (0, 0)).view, view)


class TuftedTest(unittest.TestCase):
    def test_definition(self):
        for view in range(6):
            for heap in HEAPS:
                parts = [tuft(view, (x, y)) * ink for x, y, ink in heap]
                self.assertEqual(tufted(view=view, spots=heap), joined(*parts))

    def test_large_numbers(self):
        heap = Spots([(FAR, -FAR, FAR), (0, BIG, -1)])
        self.assertEqual(tufted(4, heap), tuft(4, (FAR, -FAR)) * FAR - tuft(4, (0, BIG)))

    def test_many_spots(self):
        heap = Spots([(3 * x, 5 * y, 1) for x in range(60) for y in range(60)])
        self.assertEqual(tufted(0, heap).many, 6 * 3600)

    def test_views_that_there_are_not(self):
        for heap in HEAPS[:2]:
            for view in (-1, 6, -BIG):
                before = list(heap)
                self.assertEqual(refusal(self, BadView, tufted, view, heap).view, view)
                self.assertEqual(list(heap), before)


class SeenAloneTest(unittest.TestCase):
    def test_tufted_sheets(self):
        for view in range(6):
            for heap in HEAPS[1:]:
                self.assertEqual(seen_alone(sheet=tufted(view, heap)), view)
            self.assertEqual(seen_alone(tuft(view, (FAR, FAR))), view)

    def test_other_sheets(self):
        for sheet in (
            Sheet(), Sheet.dot(), Sheet.of((0, 0, "d"), (0, 0, "e")), tuft(0, (0, 0)) + tuft(1, (0, 0)),
            tuft(2, (0, 0)) - tuft(5, (1, 1)), tuft(3, (0, 0)) - tuft(3, (0, 0)),
        ):
            self.assertIsNone(seen_alone(sheet))

    def test_some_sheets(self):
        for seed in range(20):
            rows = some_rows(seed, 3, 1)
            seen = [view for view, heap in enumerate(views_of(rows)) if heap]
            self.assertEqual(seen_alone(Sheet(rows)), seen[0] if len(seen) == 1 else None)


class SpotsOfTest(unittest.TestCase):
    def test_tufted_sheets(self):
        for view in range(6):
            for heap in HEAPS:
                self.assertEqual(spots_of(sheet=tufted(view, heap), view=view), heap)
            heap = Spots([(FAR, -BIG, FAR), (FAR - 3, 2 - BIG, -1)])
            self.assertEqual(spots_of(tufted(view, heap), view), heap)

    def test_blank_sheet(self):
        for view in range(6):
            self.assertEqual(spots_of(Sheet(), view), Spots())

    def test_boxes(self):
        for view in range(6):
            for x, y in ((399, 0), (19, 19), (0, -399), (-24, 15)):
                heap = Spots([(BIG, 0, 1), (BIG + x, y, -2)])
                self.assertEqual(spots_of(tufted(view, heap), view), heap)
            for x, y in ((400, 0), (20, 19), (0, -400), (-24, 16), (FAR, FAR)):
                sheet = tufted(view, Spots([(0, 0, 1), (x, y, -2)]))
                places = (abs(x) + 1) * (abs(y) + 1)
                before = list(sheet)
                self.assertEqual(refusal(self, TooHeavy, spots_of, sheet, view).weight, places)
                self.assertEqual(list(sheet), before)

    def test_sheets_that_are_seen_in_other_views(self):
        for view in range(6):
            for other in range(6):
                if other != view:
                    self.assertEqual(refusal(self, NotAlone, spots_of, tuft(other, (1, 2)), view).view, other)
                    sheet = tuft(other, (1, 2)) + tufted(view, Spots([(0, 0, 1), (FAR, 0, 1)]))
                    self.assertEqual(refusal(self, NotAlone, spots_of, sheet, view).view, other)
        self.assertEqual(refusal(self, NotAlone, spots_of, Sheet.dot(), 0).view, 1)
        self.assertEqual(refusal(self, NotAlone, spots_of, Sheet.dot(), 3).view, 0)
        self.assertEqual(refusal(self, NotAlone, spots_of, tuft(5, (0, 0)) + tuft(2, (0, 0)), 2).view, 5)

    def test_views_that_there_are_not(self):
        for sheet in (Sheet(), Sheet.dot(), tuft(0, (0, 0))):
            for view in (-1, 6, BIG):
                self.assertEqual(refusal(self, BadView, spots_of, sheet, view).view, view)


if __name__ == "__main__":
    unittest.main()
