"""Points 44 and 45: shadows and lifts."""

import unittest

from sixviews.errors import BadCount, BadView, TooHeavy, UnlikeEuler
from sixviews.filled import sheet_of
from sixviews.pens import Pen
from sixviews.rows import Row
from sixviews.shadows import lift, shadow, shadow_of_pen, shadows
from sixviews.sheets import Sheet
from sixviews.spots import Spots
from sixviews.turnings import Turning
from sixviews.views import Views
from tests.helpers import BIG, KIND_NAMES, LINES, STEP, corner_set, refusal, some_rows

FAR = 10 ** 40 - 1
SHEETS = [Sheet()] + [Sheet(some_rows(seed)) for seed in range(10)]
PENS = [Pen(reaches) for reaches in (
    (0,) * 6, (1, 0, 0, 0, 0, 1), (2, 1, 0, 0, 0, 2), (3, 2, 1, 0, 1, 2), (0, 2, 0, 0, 0, -1), (-2, -1, -2, -1, -2, -1),
)]


def marks_of(rows, seam):
    """The marks of the shadow, cell by cell, by point 44 alone."""
    marks = []
    for x, y, kind, ink in rows:
        lines = sorted({LINES[seam](*corner) for corner in corner_set((x, y, kind))})
        if kind == "d":
            marks.append((lines[0], "d", ink))
        elif kind in "enw":
            marks.append((lines[0], "d", -ink) if len(lines) == 1 else (lines[0], "g", ink))
        else:
            marks.append((lines[0], "g", -ink))
    return marks


def lifted_heaps(rows):
    """The six heaps of the lift, by point 45 alone."""
    ends = [row.ahead() for row in rows] + [[(-t, ink) for t, ink in row.behind()] for row in rows]
    heaps = []
    for view in range(6):
        before, after = STEP[view - 1], STEP[(view + 1) % 6]
        spots = [(t * before[0], t * before[1], ink) for t, ink in ends[view - 1]]
        spots += [(t * after[0], t * after[1], ink) for t, ink in ends[view]]
        heaps.append(Spots(spots + [(0, 0, -rows[0].euler)]))
    return heaps


class ShadowTest(unittest.TestCase):
    def test_definition(self):
        for sheet in SHEETS:
            for seam in range(6):
                self.assertEqual(shadow(sheet=sheet, seam=seam), Row(marks_of(sheet, seam)))

    def test_single_cells(self):
        for kind in KIND_NAMES:
            for seam in range(6):
                cell = Sheet([(FAR, -BIG, kind, FAR)])
                self.assertEqual(shadow(cell, seam), Row(marks_of(cell, seam)))

    def test_opposite_seams(self):
        for sheet in SHEETS:
            for seam in range(3):
                self.assertEqual(shadow(sheet, seam + 3), shadow(sheet, seam).flipped())

    def test_views(self):
        for sheet in SHEETS:
            views = Views.of_sheet(sheet)
            for seam in range(6):
                row = shadow(sheet, seam)
                self.assertEqual(row.ahead(), views[seam].sums(seam))
                self.assertEqual(row.ahead(), views[(seam + 1) % 6].sums(seam))
                self.assertEqual(row.euler, sheet.euler)

    def test_sums_sweeps_and_inside_out(self):
        for seam in range(6):
            for first in SHEETS[:6]:
                for second in SHEETS[:6]:
                    mine, its = shadow(first, seam), shadow(second, seam)
                    self.assertEqual(shadow(first + second, seam), mine + its)
                    self.assertEqual(shadow(first * second, seam), mine * its)
                self.assertEqual(shadow(first * -FAR, seam), shadow(first, seam) * -FAR)
                self.assertEqual(shadow(~first, seam), ~shadow(first, seam))

    def test_moved(self):
        for sheet in SHEETS:
            for seam in range(6):
                self.assertEqual(shadow(sheet.moved(2, -BIG), seam), shadow(sheet, seam).moved(LINES[seam](2, -BIG)))

    def test_turned(self):
        for sheet in SHEETS[:5]:
            for code in range(24):
                turning = Turning.coded(code)
                turned = sheet.turned(turning)
                for seam in range(6):
                    row = shadow(sheet, seam)
                    self.assertEqual(shadow(turned, turning.seam_to(seam)), ~row if turning.inverted else row)

    def test_shadows(self):
        for sheet in SHEETS:
            self.assertIs(type(shadows(sheet)), tuple)
            self.assertEqual(shadows(sheet=sheet), tuple(shadow(sheet, seam) for seam in range(3)))

    def test_seams_that_there_are_not(self):
        for sheet in (Sheet(), SHEETS[1]):
            for seam in (-1, 6, BIG):
                self.assertEqual(refusal(self, BadView, shadow, sheet, seam).view, seam)


class ShadowOfPenTest(unittest.TestCase):
    def test_sheets(self):
        for pen in PENS:
            for seam in range(6):
                self.assertEqual(shadow_of_pen(pen=pen, seam=seam), shadow(sheet_of(pen), seam))

    def test_stretches(self):
        pen = Pen([FAR, 1000, 10 - FAR, 5 - FAR, 0, 1000])
        self.assertEqual(shadow_of_pen(pen, 0), Row.stretch(FAR - 5, FAR))
        self.assertEqual(shadow_of_pen(pen, 1), Row.stretch(0, 1000))
        self.assertEqual(shadow_of_pen(pen, 3), Row.stretch(-FAR, 5 - FAR))
        self.assertEqual(shadow_of_pen(pen, 4), Row.stretch(-1000, 0))
        self.assertEqual(shadow_of_pen(Pen([0, -1000, 0, 0, 0, 0]), 1), Row.stretch(0, -1000))

    def test_refusals_and_their_order(self):
        pen = Pen([FAR, 1000, 2, 3, 1, -1004])
        for seam in (-1, 6, BIG):
            self.assertEqual(refusal(self, BadView, shadow_of_pen, pen, seam).view, seam)
        for seam, length in ((0, FAR + 3), (1, 1001), (2, 1002), (3, FAR + 3), (4, 1001), (5, 1002)):
            self.assertEqual(refusal(self, TooHeavy, shadow_of_pen, pen, seam).weight, length)
        self.assertEqual(pen.reaches, (FAR, 1000, 2, 3, 1, -1004))


class LiftTest(unittest.TestCase):
    def triples(self):
        found = [shadows(sheet) for sheet in SHEETS]
        found += [(found[1][seam], found[1][2 - seam], found[1][0]) for seam in range(3)]
        found.append((Row.stretch(-2, 1), Row.stretch(3, 1), Row([(0, "d", 1)])))
        found.append((Row([(0, "d", 1), (2, "g", 1)]), Row(), Row([(1, "g", FAR), (-1, "d", FAR)])))
        return found

    def test_definition(self):
        for rows in self.triples():
            self.assertEqual(list(Views.of_sheet(lift(rows=rows))), lifted_heaps(rows))
            self.assertEqual(lift(list(rows)), lift(tuple(rows)))

    def test_shadows_of_lifts(self):
        for rows in self.triples():
            self.assertEqual(shadows(lift(rows)), tuple(rows))

    def test_blank_rows(self):
        self.assertEqual(lift([Row()] * 3), Sheet())
        self.assertEqual(lift([Row([(0, "d", FAR)])] * 3), Sheet.dot(ink=FAR))

    def test_bounds(self):
        dot = Row([(0, "d", 1)])
        # These spots have x from 0 to 19 and y from 0 to 19 at most.
        rows = [Row.stretch(0, 19), Row([(0, "d", 1)]), Row([(0, "d", 1)])]
        table = Views(lifted_heaps(rows))
        self.assertEqual(table.box(), (0, 0, 19, 19))
        self.assertEqual(Views.of_sheet(lift(rows)), table)
        for rows, places in (
            ([Row.stretch(0, 20), dot, dot], 441), ([dot, Row.stretch(0, 400), dot], None),
            ([Row([(FAR, "d", 1)]), dot, dot], (FAR + 1) ** 2),
        ):
            left, bottom, right, top = Views(lifted_heaps(rows)).box()
            if places is None:
                places = (right - left + 1) * (top - bottom + 1)
            before = [list(row) for row in rows]
            self.assertEqual(refusal(self, TooHeavy, lift, rows).weight, places)
            self.assertEqual([list(row) for row in rows], before)

    def test_refusals_and_their_order(self):
        one, two, far = Row([(0, "d", 1)]), Row([(0, "g", 1)]), Row([(FAR, "d", 1)])
        for rows in ([], [one], [one, two], [one] * 4, [far, two, one, one, one]):
            self.assertEqual(refusal(self, BadCount, lift, rows).count, len(rows))
        for rows, at in (([one, two, one], 1), ([one, one, two], 2), ([two, one, one], 1), ([far, far, two], 2)):
            self.assertEqual(refusal(self, UnlikeEuler, lift, rows).at, at)
        self.assertEqual([list(one), list(two)], [[(0, "d", 1)], [(0, "g", 1)]])


if __name__ == "__main__":
    unittest.main()
