"""Point 39: blank views, blank sweeps and killers."""

import unittest

from sixviews.errors import NoKiller
from sixviews.filled import sheet_of
from sixviews.killers import blank_views, killer, sweep_is_blank
from sixviews.pens import Pen
from sixviews.sheets import Sheet, joined, sweep_of
from sixviews.spots import Spots
from sixviews.tufts import tuft, tufted
from tests.helpers import BIG, refusal, some_rows, some_spots, views_of

FAR = 10 ** 40 - 1
SHEETS = [Sheet()] + [Sheet(some_rows(seed, 4, 1)) for seed in range(12)]
TUFTED = [
    joined(*[tufted(view, Spots(some_spots(view, 3))) for view in views])
    for views in ((0,), (3,), (0, 1), (1, 2, 4), (0, 2, 3, 5), (1, 2, 3, 4, 5), (0, 1, 2, 3, 4, 5))
]
OPEN = [Sheet.of((0, 0, "d"), (0, 0, "e")), Sheet.of((0, 0, "d")) - Sheet.of((3, 0, "d")), Sheet.of((0, 0, "u"))]


class BlankViewsTest(unittest.TestCase):
    def test_definition(self):
        for sheet in SHEETS + TUFTED + OPEN:
            expected = [view for view, heap in enumerate(views_of(sheet)) if not heap]
            self.assertEqual(blank_views(sheet=sheet), expected)

    def test_some_sheets(self):
        self.assertEqual(blank_views(Sheet()), [0, 1, 2, 3, 4, 5])
        self.assertEqual(blank_views(Sheet.dot(FAR, BIG)), [])
        self.assertEqual(blank_views(OPEN[0]), [0, 1, 5])
        self.assertEqual(blank_views(TUFTED[3]), [0, 3, 5])


class SweepIsBlankTest(unittest.TestCase):
    def test_sweeps(self):
        sheets = SHEETS + TUFTED + OPEN
        answers = []
        for first in sheets:
            for second in sheets:
                answer = sweep_is_blank(first=first, second=second)
                self.assertIs(answer, not sweep_of(first, second))
                answers.append(answer)
        self.assertGreater(answers.count(True), len(sheets) * 2)
        self.assertGreater(answers.count(False), len(sheets))

    def test_heavy_sheets(self):
        wide = tufted(2, Spots([(7 * x, 5 * y, 1) for x in range(40) for y in range(40)]))
        self.assertGreater(wide.many * wide.many, Sheet.MOST)
        self.assertIs(sweep_is_blank(wide, wide), False)
        self.assertIs(sweep_is_blank(wide, tufted(3, Spots([(FAR, x, 1) for x in range(2000)]))), True)

    def test_blank_sheets(self):
        self.assertIs(sweep_is_blank(Sheet(), Sheet.dot()), True)
        self.assertIs(sweep_is_blank(Sheet.dot(), Sheet()), True)
        self.assertIs(sweep_is_blank(Sheet(), Sheet()), True)


class KillerTest(unittest.TestCase):
    def test_killers(self):
        killed = 0
        for sheet in SHEETS + TUFTED + OPEN:
            if {} not in views_of(sheet):
                before = list(sheet)
                refusal(self, NoKiller, killer, sheet)
                self.assertEqual(list(sheet), before)
                continue
            killed += 1
            found = killer(sheet=sheet)
            self.assertTrue(found)
            self.assertLessEqual(found.many, 6)
            self.assertEqual(sweep_of(sheet, found), Sheet())
            self.assertIs(sweep_is_blank(sheet, found), True)
        self.assertGreater(killed, 6)

    def test_each_view(self):
        for blank in range(6):
            sheet = joined(*[tuft(view, (BIG, -FAR)) * FAR for view in range(6) if view != blank])
            self.assertEqual(blank_views(sheet), [blank])
            self.assertEqual(sweep_of(sheet, killer(sheet)), Sheet())

    def test_no_killers(self):
        for sheet in (Sheet.dot(), sheet_of(Pen.even(-2)), Sheet.dot(ink=FAR), TUFTED[6]):
            refusal(self, NoKiller, killer, sheet)


if __name__ == "__main__":
    unittest.main()
