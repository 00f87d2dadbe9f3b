"""Point 38: norms and weights."""

import unittest

from sixviews.erasers import counter
from sixviews.errors import TooHeavy
from sixviews.filled import sheet_of
from sixviews.norms import norm, weights
from sixviews.pens import Pen
from sixviews.sheets import Sheet, sweep_of
from sixviews.turnings import Turning
from sixviews.views import Views
from tests.helpers import BIG, refusal, some_rows, views_of

FAR = 10 ** 40 - 1
SHEETS = [Sheet()] + [Sheet(some_rows(seed)) for seed in range(8)]


class NormTest(unittest.TestCase):
    def test_definition(self):
        for sheet in SHEETS:
            self.assertEqual(norm(sheet=sheet), sweep_of(sheet, counter(sheet)))
            self.assertEqual(norm(sheet), sweep_of(sheet, ~sheet.turned(Turning(3))))

    def test_pens(self):
        for pen in (Pen.even(1), Pen.even(-1), Pen.unit("v") * 2, Pen([0, 2, 0, 0, 0, -1])):
            for sign in (1, -1):
                self.assertEqual(norm(sheet_of(pen) * sign), Sheet.dot())

    def test_heavy_sheets(self):
        # 64 dots stay 64 dots; 58 strokes in one line become 59 dots and 58 strokes.
        dots = Sheet([(x, 0, "d", 1) for x in range(64)])
        self.assertEqual(refusal(self, TooHeavy, norm, dots).weight, 4096)
        strokes = Sheet([(x, 0, "e", 1) for x in range(58)])
        self.assertEqual(refusal(self, TooHeavy, norm, strokes).weight, 58 * 117)
        self.assertEqual(weights(dots), (64,) * 6)
        self.assertEqual([dots.many, strokes.many], [64, 58])
        self.assertEqual(norm(Sheet([(x, 0, "d", 1) for x in range(63)]))[0, 0, "d"], 63)


class WeightsTest(unittest.TestCase):
    def test_definition(self):
        for sheet in SHEETS:
            expected = tuple(sum(ink * ink for ink in heap.values()) for heap in views_of(sheet))
            self.assertEqual(weights(sheet=sheet), expected)
            self.assertIs(type(weights(sheet)), tuple)

    def test_the_views_of_the_norm_at_0(self):
        for sheet in SHEETS:
            self.assertEqual(weights(sheet), tuple(heap[0, 0] for heap in Views.of_sheet(norm(sheet))))

    def test_example(self):
        self.assertEqual(weights(Sheet.of((0, 0, "d"), (0, 0, "e"))), (0, 0, 2, 2, 2, 0))

    def test_large_inks(self):
        self.assertEqual(weights(Sheet.dot(BIG, -BIG, ink=-FAR)), (FAR * FAR,) * 6)


if __name__ == "__main__":
    unittest.main()
