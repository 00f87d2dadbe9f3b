"""Points 48 to 50: digests."""

import unittest

from sixviews.cuts import lower, lower_pen, upper
from sixviews.digests import Digest
from sixviews.errors import BadCount, BadPower, BrokenSeam, OddDigest
from sixviews.filled import sheet_of
from sixviews.paths import Path
from sixviews.pens import Pen
from sixviews.rims import outline
from sixviews.shadows import lift, shadow, shadows
from sixviews.sheets import Sheet, sweep_of, turned_copies
from sixviews.splits import parted, put_together
from sixviews.spots import Spots
from sixviews.strokes import path_sheet, stroke
from sixviews.tufts import tuft
from sixviews.turnings import Turning
from sixviews.views import Views
from tests.helpers import (
    BIG, CORNER_STEPS, KIND_NAMES, LINES, corner_set, reaches_of_recipe, refusal, rows_of_pen, some_recipes, some_rows,
    walked_rows,
)

FAR = 10 ** 40 - 1
SHEETS = [Sheet(), Sheet.dot()] + [Sheet(some_rows(seed)) for seed in range(10)]
ONE = Digest(1, [0, 0, 0, 0, 0, 0], 0)
CROSSED = [Pen([-1, 2, 0, 3, -2, 1]), Pen.even(-2), Pen([0, 0, 0, 0, 0, 1]), Pen([5, -7, 0, 2, 2, -1])]


def counted(rows):
    """The Euler number, the moments and the triangles of the sheet with these rows, cell by cell."""
    euler, moments, triangles = 0, [0] * 6, 0
    for x, y, kind, ink in rows:
        sign = -1 if len(CORNER_STEPS[kind]) == 1 else 1
        euler += sign * ink
        triangles += ink if len(CORNER_STEPS[kind]) == 2 else 0
        for seam in range(6):
            moments[seam] += sign * ink * min(LINES[seam](*corner) for corner in corner_set((x, y, kind)))
    return (euler, tuple(moments), triangles)


def told(digest):
    """The eight numbers of a digest."""
    return (digest.euler, digest.moments, digest.triangles)


class CountedTest(unittest.TestCase):
    def test_example(self):
        digest = Digest.of_pen(Pen.even(1))
        self.assertEqual([digest.dots, digest.strokes, digest.triangles, (digest * digest).dots], [7, 12, 6, 19])

    def test_sheets(self):
        for sheet in SHEETS:
            digest = Digest.of_sheet(sheet=sheet)
            self.assertIs(type(digest), Digest)
            self.assertEqual(told(digest), counted(sheet))
            self.assertEqual((digest.dots, digest.strokes), (sheet.dots, sheet.strokes))
            self.assertEqual(digest.rim, sum(digest.moments))
            self.assertEqual((digest.triangles + sum(digest.moments)) % 2, 0)

    def test_single_cells(self):
        for kind in KIND_NAMES:
            for x, y in ((0, 0), (3, -2), (BIG, -FAR)):
                for ink in (1, -1, FAR):
                    self.assertEqual(told(Digest.of_sheet(Sheet([(x, y, kind, ink)]))), counted([(x, y, kind, ink)]))

    def test_views(self):
        for sheet in SHEETS:
            views = Views.of_sheet(sheet)
            digest = Digest.of_views(views=views)
            self.assertEqual(told(digest), counted(sheet))
            for seam in range(6):
                self.assertEqual(digest.moments[seam], views[seam].moment(seam))
                self.assertEqual(digest.moments[seam], views[(seam + 1) % 6].moment(seam))
        far = Views.of_sheet(SHEETS[3]).moved(FAR, -BIG) * FAR
        self.assertEqual(told(Digest.of_views(far)), counted(SHEETS[3].moved(FAR, -BIG) * FAR))

    def test_drawn_pens(self):
        for counts in some_recipes():
            reaches = reaches_of_recipe(counts)
            rows = rows_of_pen(reaches)
            digest = Digest.of_pen(pen=Pen(reaches))
            self.assertEqual(told(digest), counted(rows))
            self.assertEqual(digest.dots, len([row for row in rows if row[2] == "d"]))
            self.assertEqual(digest.strokes, len([row for row in rows if row[2] in "enw"]))
            self.assertEqual(told(digest), (1, reaches, Pen(reaches).area))

    def test_crossed_pens(self):
        for pen in CROSSED:
            self.assertEqual(told(Digest.of_pen(pen)), counted(sheet_of(pen)))
            self.assertEqual(told(Digest.of_pen(pen)), (1, pen.reaches, pen.area))

    def test_large_pens(self):
        for pen in (Pen.even(FAR), Pen([FAR, BIG, 0, -FAR, 3, BIG]), Pen.even(-BIG)):
            digest = Digest.of_pen(pen)
            self.assertEqual(told(digest), (1, pen.reaches, pen.area))
            self.assertEqual(digest, Digest.of_views(Views.of_pen(pen)))
        digest = Digest.of_pen(Pen.even(FAR))
        self.assertEqual((digest.triangles, digest.rim), (6 * FAR * FAR, 6 * FAR))
        self.assertEqual(digest.dots, 3 * FAR * FAR + 3 * FAR + 1)
        self.assertEqual(digest.strokes, 9 * FAR * FAR + 3 * FAR)

    def test_paths(self):
        for runs in ([], [(0, 3)], [(0, 3), (3, 5)], [(1, 2), (2, 2), (3, 1), (0, 4)], [(k, k) for k in range(6)] * 2):
            digest = Digest.of_path(path=Path(runs))
            self.assertEqual(told(digest), counted(walked_rows(runs)))
            self.assertEqual((digest.euler, digest.triangles), (1, 0))
            self.assertEqual(digest.dots, 1 + sum(length for _, length in runs))

    def test_large_paths(self):
        for runs in ([(0, FAR), (2, BIG), (4, FAR)], [(3, 1), (5, FAR), (1, FAR)]):
            path = Path(runs)
            digest = Digest.of_path(path)
            self.assertEqual(digest, Digest.of_views(Views.of_path(path)))
            self.assertEqual((digest.euler, digest.triangles, digest.strokes), (1, 0, path.steps))
        long = Path([(k % 6, 10 ** 39 + k) for k in range(2000)])
        self.assertEqual(Digest.of_path(long).strokes, long.steps)

    def test_many_spots(self):
        rows = [(x, y, KIND_NAMES[(x + y) % 6], x - y + 1) for x in range(40) for y in range(40)]
        self.assertEqual(told(Digest.of_views(Views.of_sheet(Sheet(rows)))), counted(rows))


class MadeTest(unittest.TestCase):
    def test_attributes(self):
        digest = Digest(euler=2, moments=[1, 2, 3, 4, 5, 6], triangles=7)
        self.assertEqual((digest.euler, digest.moments, digest.triangles), (2, (1, 2, 3, 4, 5, 6), 7))
        self.assertEqual((digest.rim, digest.dots, digest.strokes), (21, 16, 21))
        digest = Digest(-3, (-1, 0, 0, 0, 0, -4), -FAR + 2)
        self.assertEqual((digest.rim, digest.dots), (-5, (-FAR + 2 - 5) // 2 - 3))
        self.assertEqual(digest.strokes, digest.dots + digest.triangles + 3)

    def test_the_list_is_copied(self):
        moments = [1, 2, 3, 4, 5, 6]
        digest = Digest(0, moments, 1)
        moments[0] = 9
        self.assertEqual(digest.moments, (1, 2, 3, 4, 5, 6))
        self.assertIs(type(digest.moments), tuple)

    def test_refusals(self):
        for many in (0, 1, 5, 7, 12):
            # There are not six moments, which comes before the digest that is odd.
            for triangles in (0, 1):
                self.assertEqual(refusal(self, BadCount, Digest, 1, [0] * many, triangles).count, many)
        for moments, triangles in (([0] * 6, 1), ([0] * 5 + [1], 0), ([1] * 5 + [-2], 2), ([FAR] * 6, -FAR)):
            refusal(self, OddDigest, Digest, 0, moments, triangles)
        self.assertEqual(Digest(0, [1] * 5 + [-2], 3).triangles, 3)

    def test_broken_seams(self):
        views = Views([Spots([(0, 0, 1)])] * 3 + [Spots([(1, 0, 1)])] * 3)
        before = [list(heap) for heap in views]
        error = refusal(self, BrokenSeam, Digest.of_views, views)
        self.assertEqual((error.seam, error.line, error.here, error.there), views.broken()[0])
        self.assertEqual([list(heap) for heap in views], before)
        # The totals may agree, and a single line is enough.
        for seam in range(6):
            heaps = [Spots([(0, 0, 1)])] * 6
            heaps[seam] = Spots([(0, 0, 1), (5, 3, FAR), (6, 3, -FAR)])
            views = Views(heaps)
            error = refusal(self, BrokenSeam, Digest.of_views, views)
            self.assertEqual((error.seam, error.line, error.here, error.there), views.broken()[0])

    def test_equality(self):
        digest = Digest(1, [0, 0, 0, 1, 0, 1], 2)
        self.assertTrue(digest == Digest(1, (0, 0, 0, 1, 0, 1), 2))
        others = [Digest(2, [0, 0, 0, 1, 0, 1], 2), Digest(1, [0, 0, 0, 1, 0, 1], 4), Digest(1, [0, 0, 1, 0, 0, 1], 2)]
        for other in others:
            self.assertTrue(digest != other)
            self.assertFalse(digest == other)


class SumsAndProductsTest(unittest.TestCase):
    def test_sums_of_sheets(self):
        for first in SHEETS[::3]:
            for second in SHEETS[::2]:
                mine, its = Digest.of_sheet(first), Digest.of_sheet(second)
                self.assertEqual(mine + its, Digest.of_sheet(first + second))
                self.assertEqual(mine - its, Digest.of_sheet(first - second))
            self.assertEqual(-Digest.of_sheet(first), Digest.of_sheet(-first))
            for factor in (0, 1, -3, FAR):
                self.assertEqual(Digest.of_sheet(first) * factor, Digest.of_sheet(first * factor))
                self.assertEqual(factor * Digest.of_sheet(first), Digest.of_sheet(first * factor))

    def test_number_by_number(self):
        mine, its = Digest(3, [1, 2, 3, 4, 5, 6], 1), Digest(-1, [0, 0, 5, 0, 0, 0], FAR)
        self.assertEqual(told(mine + its), (2, (1, 2, 8, 4, 5, 6), FAR + 1))
        self.assertEqual(told(mine - its), (4, (1, 2, -2, 4, 5, 6), 1 - FAR))
        self.assertEqual(told(-mine), (-3, (-1, -2, -3, -4, -5, -6), -1))
        self.assertEqual(told(mine * -2), (-6, (-2, -4, -6, -8, -10, -12), -2))

    def test_sweeps_of_sheets(self):
        for first in SHEETS:
            for second in SHEETS[::2]:
                product = Digest.of_sheet(first) * Digest.of_sheet(second)
                self.assertEqual(product, Digest.of_sheet(sweep_of(first, second)))
                self.assertEqual(product, Digest.of_sheet(second) * Digest.of_sheet(first))

    def test_product_by_its_words(self):
        mine, its = Digest(2, [1, -2, 3, 5, 0, 7], 4), Digest(-3, [2, 2, -9, 1, 4, 4], 8)
        g, h = mine.moments, its.moments
        m = sum((g[i - 1] + g[(i + 1) % 6] - g[i]) * h[i] for i in range(6))
        moments = tuple(2 * h[i] - 3 * g[i] for i in range(6))
        self.assertEqual(told(mine * its), (-6, moments, 2 * 8 - 3 * 4 + 2 * m))

    def test_sums_of_pens(self):
        pens = [Pen(reaches_of_recipe(counts)) for counts in some_recipes()[::7]] + CROSSED + [Pen.even(FAR)]
        for first in pens:
            for second in pens:
                self.assertEqual(Digest.of_pen(first) * Digest.of_pen(second), Digest.of_pen(first + second))
            self.assertEqual(Digest.of_pen(first) * Digest.of_pen(-first), ONE)

    def test_strokes_of_pens(self):
        path = Path([(0, 3), (2, 4), (5, 1)])
        for counts in some_recipes()[::9]:
            pen = Pen(reaches_of_recipe(counts))
            self.assertEqual(Digest.of_pen(pen) * Digest.of_path(path), Digest.of_sheet(stroke(pen, path)))

    def test_paths_behind_paths(self):
        first, second = Path([(0, FAR), (2, 1)]), Path([(1, BIG)])
        both = Digest.of_path(first) + Digest.of_path(second).moved(*first.end) - ONE.moved(*first.end)
        self.assertEqual(both, Digest.of_path(first + second))

    def test_powers(self):
        for sheet in SHEETS[:6]:
            digest = Digest.of_sheet(sheet)
            power = ONE
            for n in range(10):
                self.assertEqual(digest.raised(n=n), power)
                self.assertEqual(digest ** n, power)
                power = power * digest
        for sheet in SHEETS[2:4]:
            self.assertEqual(Digest.of_sheet(sheet).raised(2), Digest.of_sheet(sweep_of(sheet, sheet)))

    def test_large_powers(self):
        self.assertEqual(Digest.of_pen(Pen.even(1)).raised(400), Digest.of_pen(Pen.even(400)))
        self.assertEqual(Digest.of_pen(Pen.even(-FAR)) ** 399, Digest.of_pen(Pen.even(-FAR * 399)))
        digest, power = Digest(-FAR, [BIG, 1, 2, 3, 4, -5], BIG - 1), ONE
        for _ in range(400):
            power = power * digest
        self.assertEqual(digest ** 400, power)
        self.assertEqual(Digest(0, [0] * 6, FAR - 1).raised(0), ONE)

    def test_powers_that_there_are_not(self):
        for n in (-1, 401, -FAR, FAR):
            digest = Digest.of_pen(Pen.even(1))
            self.assertEqual(refusal(self, BadPower, digest.raised, n).power, n)
            self.assertEqual(refusal(self, BadPower, lambda: digest ** n).power, n)
            self.assertEqual(digest, Digest.of_pen(Pen.even(1)))


    def test_other_operands(self):
        digest = Digest.of_pen(Pen.even(1))
        for other in (None, "1", [1], Sheet.dot()):
            refusal(self, TypeError, lambda: digest + other)
            refusal(self, TypeError, lambda: digest - other)
            refusal(self, TypeError, lambda: digest * other)


class CarriedTest(unittest.TestCase):
    def test_turned_sheets(self):
        for sheet in SHEETS:
            digest = Digest.of_sheet(sheet)
            for code, turned in turned_copies(sheet):
                self.assertEqual(digest.turned(turning=Turning.coded(code)), Digest.of_sheet(turned))

    def test_moments_are_led(self):
        digest = Digest(3, [1, 2, 3, 4, 5, 7], 2)
        self.assertEqual(told(digest.turned(Turning(1))), (3, (7, 1, 2, 3, 4, 5), 2))
        self.assertEqual(told(digest.turned(Turning(mirrored=True))), (3, (1, 7, 5, 4, 3, 2), 2))
        self.assertEqual(told(digest.turned(Turning(inverted=True))), (3, (-4, -5, -7, -1, -2, -3), 2))
        self.assertEqual(told(digest.turned(Turning(2, inverted=True))), (3, (-2, -3, -4, -5, -7, -1), 2))

    def test_turned_pens(self):
        for pen in CROSSED + [Pen([2, 1, 0, 0, 0, 2]), Pen.even(FAR)]:
            for code in range(24):
                turning = Turning.coded(code)
                self.assertEqual(Digest.of_pen(pen).turned(turning), Digest.of_pen(pen.turned(turning)))

    def test_moved_sheets(self):
        for sheet in SHEETS:
            digest = Digest.of_sheet(sheet)
            for dx, dy in ((0, 0), (3, -5), (-FAR, BIG)):
                moved = Digest.of_sheet(sheet.moved(dx, dy))
                moments = [digest.moments[seam] + digest.euler * LINES[seam](dx, dy) for seam in range(6)]
                self.assertEqual(told(moved), (digest.euler, tuple(moments), digest.triangles))
                self.assertEqual(digest.moved(dx, dy), moved)

    def test_inside_out(self):
        # The dots of the sheet minus those of the sheet inside out are its rim.
        for sheet in SHEETS:
            digest = Digest.of_sheet(sheet)
            self.assertEqual(sheet.dots - (~sheet).dots, digest.rim)
            self.assertEqual(sheet.dots + (~sheet).dots, digest.triangles + 2 * digest.euler)

    def test_outlines(self):
        for sheet in SHEETS:
            digest = Digest.of_sheet(sheet)
            self.assertEqual(Digest.of_sheet(outline(sheet)), digest - digest.turned(Turning(inverted=True)))
            self.assertEqual(Digest.of_sheet(outline(sheet)).dots, digest.rim)
            self.assertEqual(Digest.of_sheet(outline(sheet)).triangles, 0)

    def test_cut_sheets(self):
        # The parts along several lines make up the sheet, and so do their digests.
        for sheet in SHEETS:
            rest, total = sheet, Digest.of_sheet(Sheet())
            for seam in (0, 2, 5):
                for line in (-2, 0, 1):
                    total = total + Digest.of_sheet(lower(rest, seam, line))
                    rest = upper(rest, seam, line)
            self.assertEqual(total + Digest.of_sheet(rest), Digest.of_sheet(sheet))

    def test_cut_pens(self):
        pen = Pen([4, 3, 2, 1, 2, 4])
        self.assertTrue(pen.is_drawn)
        cut = lower_pen(lower_pen(pen, 1, 1), 0, 2)
        self.assertEqual(Digest.of_pen(cut), Digest.of_sheet(lower(lower(sheet_of(pen), 1, 1), 0, 2)))
        far = lower_pen(Pen.even(FAR), 0, 0)
        self.assertEqual(Digest.of_pen(far).triangles, far.area)
        self.assertEqual(Digest.of_pen(far), Digest.of_views(Views.of_pen(far)))

    def test_sheets_that_were_taken_apart(self):
        for sheet in SHEETS:
            again = put_together(*parted(Sheet.read(sheet.text())))
            self.assertEqual(Digest.of_sheet(again), Digest.of_sheet(sheet))
            # Tufts and shadows: the lift has the same Euler number and the same moments.
            lifted = Digest.of_sheet(lift(shadows(sheet)))
            self.assertEqual((lifted.euler, lifted.moments), told(Digest.of_sheet(sheet))[:2])
        for view in range(6):
            self.assertEqual(told(Digest.of_sheet(tuft(view, (3, 1)))), (0, (0,) * 6, 2))

    def test_shadows_show_the_moments(self):
        for sheet in SHEETS:
            for seam in range(6):
                row = shadow(sheet, seam)
                self.assertEqual(Digest.of_sheet(sheet).moments[seam], sum(t * ink for t, ink in row.ahead()))
                self.assertEqual(Digest.of_sheet(sheet).euler, row.euler)

    def test_paths_as_sheets(self):
        path = Path([(4, 2), (0, 3), (1, 1)])
        self.assertEqual(Digest.of_path(path), Digest.of_sheet(path_sheet(path)))
        self.assertEqual(Digest.of_path(Path()), ONE)


if __name__ == "__main__":
    unittest.main()
