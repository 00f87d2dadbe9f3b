"""Point 37: counter sheets and erasers."""

import random
import unittest

from sixviews.cells import hanging
from sixviews.erasers import counter, eraser, is_erasable, pen_of
from sixviews.errors import NoEraser
from sixviews.filled import sheet_of
from sixviews.pens import Pen
from sixviews.sheets import Sheet, sweep_of
from sixviews.turnings import Turning
from sixviews.views import Views
from tests.helpers import BIG, KIND_NAMES, reaches_of_recipe, refusal, some_recipes, some_rows, views_of

FAR = 10 ** 40 - 1
SHEETS = [Sheet(some_rows(seed)) for seed in range(10)]


def some_pens():
    """Drawn and crossed pens."""
    dice = random.Random(11)
    crossed = [Pen([dice.randint(-3, 3) for _ in range(6)]) for _ in range(12)]
    return crossed + [Pen(reaches_of_recipe(counts)) for counts in some_recipes()[::6]]


def first_stubborn(sheet):
    """The least view that is not one spot with the ink 1 or -1, or None."""
    for view, heap in enumerate(views_of(sheet)):
        if len(heap) != 1 or list(heap.values())[0] not in (1, -1):
            return view
    return None


class CounterTest(unittest.TestCase):
    def test_definition(self):
        for sheet in SHEETS + [Sheet()]:
            self.assertEqual(counter(sheet=sheet), ~sheet.turned(Turning(3)))
            self.assertEqual(counter(counter(sheet)), sheet)

    def test_views(self):
        # Each view of the counter sheet is that of the sheet, turned by three turns.
        for sheet in SHEETS:
            for mine, its in zip(Views.of_sheet(sheet), Views.of_sheet(counter(sheet))):
                self.assertEqual([(-x, -y, ink) for x, y, ink in reversed(list(mine))], list(its))

    def test_cells(self):
        self.assertEqual(counter(Sheet.of((0, 0, "e"))).text(), "-1,0,d:-1 -1,0,e:-1 0,0,d:-1")
        self.assertEqual(counter(Sheet.dot(BIG, -FAR, ink=FAR)), Sheet.dot(-BIG, FAR, ink=FAR))


class EraserTest(unittest.TestCase):
    def test_pens(self):
        for pen in some_pens():
            for sign in (1, -1):
                sheet = sheet_of(pen) * sign
                found = eraser(sheet=sheet)
                self.assertEqual(sweep_of(sheet, found), Sheet.dot())
                self.assertEqual(found, counter(sheet))
                self.assertEqual(found, sheet_of(-pen) * sign)
                self.assertEqual(eraser(found), sheet)
                self.assertIs(is_erasable(sheet), True)

    def test_other_sheets(self):
        cases = SHEETS + [Sheet.dot(ink=2), Sheet.dot(ink=FAR), Sheet.dot() + Sheet.dot(1, 0), Sheet()]
        for sheet in cases:
            view = first_stubborn(sheet)
            self.assertIsNotNone(view)
            self.assertIs(is_erasable(sheet=sheet), False)
            self.assertNotEqual(sweep_of(sheet, counter(sheet)), Sheet.dot())
            before = list(sheet)
            self.assertEqual(refusal(self, NoEraser, eraser, sheet).view, view)
            self.assertEqual(refusal(self, NoEraser, pen_of, sheet).view, view)
            self.assertEqual(list(sheet), before)

    def test_open_cells_are_pens(self):
        for kind in KIND_NAMES:
            self.assertIs(is_erasable(Sheet.of((0, 0, kind))), True)
        for sheet in (Sheet.of((0, 0, "d"), (0, 0, "e")), Sheet.of((0, 0, "u"), (0, 0, "n"), (0, 0, "w"))):
            self.assertIs(is_erasable(sheet), False)

    def test_the_least_view_is_told(self):
        # The single dot with tufts: a tuft changes one view alone.
        for view in range(6):
            for other in range(view, 6):
                sheet = Sheet.dot() + Sheet.of(*hanging(view, (2, 1))) - Sheet.of(*hanging(other, (0, 4)))
                self.assertEqual(first_stubborn(sheet), view)
                self.assertEqual(refusal(self, NoEraser, eraser, sheet).view, view)
                self.assertEqual(refusal(self, NoEraser, pen_of, sheet).view, view)

    def test_one_spot_with_another_ink(self):
        for ink in (2, -2, 0, FAR):
            self.assertIs(is_erasable(sheet_of(Pen.even(1)) * ink), False)

    def test_large_places(self):
        sheet = Sheet.of((FAR, -FAR, "v"))
        self.assertEqual(sweep_of(sheet, eraser(sheet)), Sheet.dot())
        self.assertEqual(pen_of(sheet), (1, -Pen.unit("u").moved(-FAR, FAR - 1)))


class PenOfTest(unittest.TestCase):
    def test_pens(self):
        for pen in some_pens():
            for sign in (1, -1):
                found = pen_of(sheet=sheet_of(pen.moved(BIG, -3)) * sign)
                self.assertIs(type(found), tuple)
                self.assertEqual(found, (sign, pen.moved(BIG, -3)))

    def test_strokes(self):
        self.assertEqual(pen_of(Sheet.of((0, 0, "e"))), (-1, Pen.unit("e").moved(-1, 0) * -1))
        self.assertEqual(pen_of(Sheet([(0, 0, "e", -1)])), (1, -Pen.unit("e").moved(-1, 0)))
        self.assertEqual(pen_of(Sheet.dot(ink=-1)), (-1, Pen.even(0)))


if __name__ == "__main__":
    unittest.main()
