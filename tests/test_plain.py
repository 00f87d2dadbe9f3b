"""Points 21, 22 and 31, told a second time."""

import time
import unittest

from sixviews.errors import BadView, TooHeavy
from sixviews.plain import plain_sweep, plain_view
from sixviews.sheets import Sheet, sweep_of
from sixviews.spots import Spots
from sixviews.tufts import tuft
from sixviews.views import Views
from tests.helpers import BIG, KIND_NAMES, heap_product, refusal, some_rows, view_of, views_of
from tests.test_forms import cells

FAR = 10 ** 40 - 1
SHEETS = [Sheet(), Sheet.dot(), tuft(3, (1, -2))] + [Sheet(some_rows(seed, 6, 2)) for seed in range(6)]


class SweepTest(unittest.TestCase):
    def test_examples(self):
        across, along = Sheet.of((0, 0, "e")), Sheet.of((0, 0, "n"))
        self.assertEqual(plain_sweep(across, across).text(), "0,0,e:-1 1,0,d:-1 1,0,e:-1")
        self.assertEqual(plain_sweep(first=across, second=along).text(), "0,0,u:1 1,0,v:1 1,0,w:1")

    def test_the_same_as_the_sweep(self):
        for first in SHEETS:
            for second in SHEETS:
                self.assertEqual(plain_sweep(first, second), first * second)

    def test_single_cells(self):
        for kind in KIND_NAMES:
            for other in KIND_NAMES:
                first, second = Sheet([(2, -1, kind, 3)]), Sheet([(-BIG, FAR, other, -FAR)])
                swept = plain_sweep(first, second)
                self.assertEqual(swept, sweep_of(first, second))
                # The views of a sweep are the product of the views.
                for view in range(6):
                    product = heap_product(view_of(first, view), view_of(second, view))
                    self.assertEqual(view_of(swept, view), product)

    def test_weights(self):
        swept = plain_sweep(cells(50), cells(80, (0, 1)))
        self.assertEqual(swept, Sheet([(3 * x, y, "d", 1) for x in range(50) for y in range(80)]))
        for first, second, weight in ((50, 81, 4050), (1, 4001, 4001), (2000, 2000, 4000000)):
            self.assertEqual(refusal(self, TooHeavy, plain_sweep, cells(first), cells(second)).weight, weight)
        self.assertEqual(plain_sweep(cells(4001), Sheet()), Sheet())

    def test_far_sheets(self):
        # The time does not grow with the places.
        start = time.perf_counter()
        for first in SHEETS[3:]:
            moved = first.moved(FAR, -FAR) * FAR
            self.assertEqual(plain_sweep(moved, SHEETS[4]), (first * SHEETS[4]).moved(FAR, -FAR) * FAR)
        self.assertLess(time.perf_counter() - start, 20)

    def test_nothing_changes(self):
        first, second = SHEETS[3], SHEETS[4]
        rows = (list(first), list(second))
        plain_sweep(first, second), plain_view(first, 2)
        self.assertEqual((list(first), list(second)), rows)


class ViewTest(unittest.TestCase):
    def test_views(self):
        for sheet in SHEETS + [SHEETS[3].moved(FAR, -BIG) * FAR]:
            heaps = views_of(sheet)
            for view in range(6):
                heap = plain_view(sheet=sheet, view=view)
                self.assertIs(type(heap), Spots)
                self.assertEqual({(x, y): ink for x, y, ink in heap}, heaps[view])
                self.assertEqual(heap, Views.of_sheet(sheet)[view])

    def test_views_that_there_are_not(self):
        for view in (-1, 6, -6, FAR):
            for sheet in (Sheet(), SHEETS[3]):
                self.assertEqual(refusal(self, BadView, plain_view, sheet, view).view, view)


if __name__ == "__main__":
    unittest.main()
