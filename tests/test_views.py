"""Points 31 to 35: views and tables of views; and what points 11, 22, 24, 26 and 39 say of views."""

import unittest

from sixviews.cells import hanging
from sixviews.errors import BadCount, BadView, BrokenSeam, TooHeavy
from sixviews.paths import Path
from sixviews.pens import Pen
from sixviews.sheets import Sheet, sweep_of, turned_copies
from sixviews.spots import Spots
from sixviews.turnings import Turning
from sixviews.views import Views
from tests.helpers import (
    BIG, HEIGHTS, KIND_NAMES, LINES, STEP, corner_set, heap_product, places_in, reaches_of_recipe, refusal,
    rows_of_pen, some_recipes, some_rows, some_spots, views_of, walked_rows,
)

SHEETS = [Sheet()] + [Sheet(some_rows(seed)) for seed in range(8)]
TABLES = [Views([Spots(some_spots(seed + view, 4)) for view in range(6)]) for seed in range(0, 30, 6)]
TURNINGS = [Turning.coded(code) for code in range(24)]
FAR = 10 ** 40 - 1


def told(views):
    """The table as a list of dicts from places to inks."""
    return [{(x, y): ink for x, y, ink in heap} for heap in views]


def line_sums(heap, seam):
    """The sums of a heap on the ruled lines of the seam, a dict."""
    sums = {}
    for x, y, ink in heap:
        line = LINES[seam](x, y)
        sums[line] = sums.get(line, 0) + ink
    return sums


def unlike(views):
    """The broken seams, by point 33 alone."""
    found = []
    for seam in range(6):
        here, there = line_sums(views[seam], seam), line_sums(views[(seam + 1) % 6], seam)
        for line in sorted(set(here) | set(there)):
            if here.get(line, 0) != there.get(line, 0):
                found.append((seam, line, here.get(line, 0), there.get(line, 0)))
    return found


class ViewsOfSheetsTest(unittest.TestCase):
    def test_example(self):
        views = Views.of_sheet(Sheet.of((0, 0, "d"), (0, 0, "e")))
        self.assertEqual(
            [list(views[1]), list(views[2]), list(views[3]), list(views[5])],
            [[], [(0, 0, 1), (1, 0, -1)], [(0, 0, 1), (1, 0, -1)], []],
        )

    def test_rule_of_lowest_corners(self):
        for sheet in SHEETS:
            self.assertEqual(told(Views.of_sheet(sheet)), views_of(sheet))

    def test_single_cells(self):
        for kind in KIND_NAMES:
            views = Views.of_sheet(sheet=Sheet([(3, -2, kind, 5)]))
            for view in range(6):
                corners = sorted(corner_set((3, -2, kind)), key=lambda place: HEIGHTS[view](*place))
                ink = -5 if kind in "enw" else 5
                self.assertEqual(list(views[view]), [(*corners[0], ink)])

    def test_large_places_and_inks(self):
        sheet = Sheet([(FAR, -FAR, "w", FAR), (-BIG, BIG, "v", -BIG), (0, 0, "d", 1)])
        self.assertEqual(told(Views.of_sheet(sheet)), views_of(sheet))
        self.assertEqual(Views.of_sheet(sheet).broken(), [])

    def test_blank_sheet(self):
        views = Views.of_sheet(Sheet())
        self.assertEqual(views, Views([Spots()] * 6))
        self.assertIs(bool(views), False)

    def test_no_seam_is_broken_and_the_totals_are_the_euler_number(self):
        for sheet in SHEETS:
            views = Views.of_sheet(sheet)
            self.assertEqual(unlike(views), [])
            self.assertEqual(views.broken(), [])
            self.assertIsNone(views.check())
            self.assertEqual([heap.total for heap in views], [sheet.euler] * 6)

    def test_equal_views_are_those_of_equal_sheets(self):
        # Point 39.
        for sheet in SHEETS:
            for other in SHEETS:
                self.assertIs(Views.of_sheet(sheet) == Views.of_sheet(other), sheet == other)

    def test_equal_squares(self):
        # Point 39: equal exactly if each view is the same or the opposite, not all in the same way.
        ahead = Sheet.of(*hanging(0, (0, 0)))
        behind = Sheet.of(*hanging(3, (2, 1))) * 3
        pairs = [
            (SHEETS[1], -SHEETS[1], True), (SHEETS[1], SHEETS[2], False), (SHEETS[3], SHEETS[3], True),
            (ahead + behind, ahead - behind, True), (ahead + behind, behind - ahead, True),
            (ahead + behind, ahead + behind * 2, False), (ahead + SHEETS[1], ahead - SHEETS[1], False),
        ]
        for first, second, same in pairs:
            alike = [mine in (its, -its) for mine, its in zip(Views.of_sheet(first), Views.of_sheet(second))]
            self.assertIs(all(alike), same)
            self.assertIs(sweep_of(first, first) == sweep_of(second, second), same)


class ViewsOfPensAndPathsTest(unittest.TestCase):
    def test_drawn_pens(self):
        for counts in some_recipes():
            pen = Pen(reaches_of_recipe(counts)).moved(2, -1)
            self.assertEqual(told(Views.of_pen(pen)), views_of(rows_of_pen(pen.reaches)))

    def test_corners(self):
        for reaches in ((0, 5, 0, 0, 0, 0), (BIG, 0, -BIG, FAR, 1, 2), (-3, -2, -1, 0, 1, 2)):
            views = Views.of_pen(pen=Pen(reaches))
            for view in range(6):
                (x, y, ink), = views[view]
                self.assertEqual(ink, 1)
                self.assertEqual(LINES[view](x, y), reaches[view])
                self.assertEqual(LINES[view - 1](x, y), reaches[view - 1])
            self.assertEqual(views.broken(), [])

    def test_paths(self):
        for runs in ([], [(0, 3), (3, 5)], [(1, 2), (4, 1), (5, 3), (2, 2)], [(step, 2) for step in range(6)] * 2):
            self.assertEqual(told(Views.of_path(Path(runs))), views_of(walked_rows(runs)))

    def test_long_paths(self):
        for step in range(6):
            x, y = STEP[step]
            views = Views.of_path(path=Path([(step, FAR)]))
            for view in range(6):
                rises = HEIGHTS[view](x, y) > 0
                self.assertEqual(list(views[view]), [(FAR * x, FAR * y, 1)] if rises else [(0, 0, 1)])

    def test_paths_of_100_long_runs(self):
        runs = [((k + k // 6 * 2) % 6, BIG + k) for k in range(100)]
        path = Path(runs)
        self.assertEqual(len(path.runs), 100)
        views = Views.of_path(path)
        self.assertEqual(views.broken(), [])
        self.assertEqual([heap.total for heap in views], [1] * 6)
        knees = path.knees()
        for view in range(6):
            heap = {(0, 0): 1}
            for (step, _), before, behind in zip(path.runs, knees, knees[1:]):
                if HEIGHTS[view](*STEP[step]) > 0:
                    heap[before] = heap.get(before, 0) - 1
                    heap[behind] = heap.get(behind, 0) + 1
            self.assertEqual(told(views)[view], {place: ink for place, ink in heap.items() if ink})


class TableTest(unittest.TestCase):
    def test_heaps(self):
        heaps = [Spots([(view, 0, 1)]) for view in range(6)]
        views = Views(heaps=heaps)
        self.assertEqual(Views.MOST, 400)
        self.assertIs(type(views.heaps), tuple)
        self.assertEqual(views.heaps, tuple(heaps))
        self.assertEqual(list(views), heaps)
        self.assertEqual([views[view] for view in range(6)], heaps)
        self.assertEqual(Views(tuple(heaps)), views)
        heaps[0] = Spots()
        self.assertEqual(list(views[0]), [(0, 0, 1)])

    def test_other_numbers_of_heaps(self):
        for count in (0, 1, 5, 7, 12):
            self.assertEqual(refusal(self, BadCount, Views, [Spots()] * count).count, count)

    def test_views_that_there_are_not(self):
        for views in (Views([Spots()] * 6), TABLES[0]):
            before = list(views)
            for view in (-1, 6, -6, BIG, -BIG):
                self.assertEqual(refusal(self, BadView, lambda: views[view]).view, view)
            self.assertEqual(list(views), before)

    def test_equality_and_truth(self):
        one = [Spots([(0, 0, 1)])]
        self.assertIs(bool(Views([Spots()] * 5 + one)), True)
        self.assertIs(bool(Views([Spots()] * 6)), False)
        self.assertIs(Views([Spots()] * 5 + one) == Views(one + [Spots()] * 5), False)
        self.assertIs(Views(one * 6) == Views([Spots([(0, 0, 2)]) - one[0]] * 6), True)
        self.assertIs(Views(one * 6) != Views([Spots([(0, 0, 2)]) - one[0]] * 6), False)
        for other in (one * 6, tuple(one * 6), None, 6, "blank", one[0]):
            self.assertIs(Views(one * 6) == other, False)
            self.assertIs(Views(one * 6) != other, True)

    def test_sums_and_multiples(self):
        for first in TABLES:
            for second in TABLES:
                self.assertEqual(list(first + second), [mine + its for mine, its in zip(first, second)])
                self.assertEqual(list(first - second), [mine - its for mine, its in zip(first, second)])
            self.assertEqual(list(-first), [-heap for heap in first])
            for n in (0, 1, -3, FAR):
                self.assertEqual(list(first * n), [heap * n for heap in first])
                self.assertEqual(n * first, first * n)
            self.assertIs(bool(first - first), False)

    def test_products(self):
        for first in TABLES:
            for second in TABLES:
                expected = [heap_product(mine, its) for mine, its in zip(told(first), told(second))]
                self.assertEqual(told(first * second), expected)

    def test_heavy_products(self):
        def heap(many):
            return Spots([(x, 0, 1) for x in range(many)])
        light, heavy, heavier = heap(1), heap(63), heap(80)
        first = Views([light, light, light, heavier, heavy, light])
        second = Views([heavy, light, heavier, light, heap(64), heavier])
        before = [list(first), list(second)]
        self.assertEqual(refusal(self, TooHeavy, lambda: first * second).weight, 63 * 64)
        self.assertEqual(refusal(self, TooHeavy, lambda: first * first).weight, 6400)
        self.assertEqual([list(first), list(second)], before)
        self.assertEqual((Views([heap(50)] * 6) * Views([heap(80)] * 6))[5].total, 4000)

    def test_moved(self):
        for views in TABLES:
            for dx, dy in ((0, 0), (2, -3), (FAR, -FAR)):
                self.assertEqual(list(views.moved(dx, dy)), [heap.moved(dx, dy) for heap in views])
            self.assertEqual(views.moved(dy=1, dx=2), views.moved(2, 1))

    def test_turned(self):
        for views in TABLES:
            for turning in TURNINGS:
                turned = views.turned(turning=turning)
                for view in range(6):
                    self.assertEqual(turned[turning.view_to(view)], views[view].turned(turning))
                self.assertEqual(turned.turned(turning.back()), views)
            for first in TURNINGS[::5]:
                for second in TURNINGS[::3]:
                    self.assertEqual(views.turned(first).turned(second), views.turned(first.then(second)))

    def test_inside_out(self):
        for views in TABLES:
            self.assertEqual(list(~views), [views[(view + 3) % 6] for view in range(6)])
            self.assertEqual(~~views, views)
            self.assertEqual(~views, views.turned(Turning(inverted=True)))


class ViewsAndSheetsTest(unittest.TestCase):
    """Point 34: what is done with sheets and with their tables."""

    def test_sums_and_multiples(self):
        for first in SHEETS:
            for second in SHEETS:
                self.assertEqual(Views.of_sheet(first + second), Views.of_sheet(first) + Views.of_sheet(second))
                self.assertEqual(Views.of_sheet(first - second), Views.of_sheet(first) - Views.of_sheet(second))
            self.assertEqual(Views.of_sheet(first * -7), Views.of_sheet(first) * -7)
            self.assertEqual(Views.of_sheet(-first), -Views.of_sheet(first))

    def test_sweeps(self):
        for first in SHEETS:
            for second in SHEETS:
                self.assertEqual(Views.of_sheet(first * second), Views.of_sheet(first) * Views.of_sheet(second))

    def test_powers(self):
        views = Views.of_sheet(SHEETS[1])
        self.assertEqual(Views.of_sheet(SHEETS[1] ** 3), views * views * views)

    def test_moved(self):
        for sheet in SHEETS:
            self.assertEqual(Views.of_sheet(sheet.moved(BIG, -3)), Views.of_sheet(sheet).moved(BIG, -3))

    def test_turned(self):
        for sheet in SHEETS:
            views = Views.of_sheet(sheet)
            for code, copy in turned_copies(sheet):
                self.assertEqual(Views.of_sheet(copy), views.turned(Turning.coded(code)))

    def test_inside_out(self):
        for sheet in SHEETS:
            self.assertEqual(Views.of_sheet(~sheet), ~Views.of_sheet(sheet))

    def test_turned_pens(self):
        for reaches in ((0, 5, 0, 0, 0, 0), (BIG, 0, -BIG, FAR, 1, 2), (2, 1, 0, 0, 0, 2)):
            pen = Pen(reaches)
            for turning in TURNINGS:
                self.assertEqual(Views.of_pen(pen.turned(turning)), Views.of_pen(pen).turned(turning))
            self.assertEqual(Views.of_pen(pen.moved(3, BIG)), Views.of_pen(pen).moved(3, BIG))
            self.assertEqual(Views.of_pen(pen + Pen.even(2)), Views.of_pen(pen) * Views.of_pen(Pen.even(2)))

    def test_paths_one_after_another(self):
        # The second path starts where the first one ends.
        first, second = Path([(0, 3), (2, BIG)]), Path([(4, 2), (1, 7)])
        whole = Views.of_path(first + second)
        self.assertEqual(
            whole, Views.of_path(first) + Views.of_path(second).moved(*first.end) - Views.of_sheet(Sheet.dot(*first.end)),
        )


class BrokenSeamsTest(unittest.TestCase):
    def test_broken(self):
        for views in TABLES:
            self.assertEqual(views.broken(), unlike(views))
            self.assertEqual(views.broken(), sorted(views.broken()))
            error = refusal(self, BrokenSeam, views.check)
            self.assertEqual((error.seam, error.line, error.here, error.there), unlike(views)[0])

    def test_one_spot(self):
        heaps = [Spots()] * 6
        heaps[3] = Spots([(2, 5, 7)])
        views = Views(heaps)
        self.assertEqual(views.broken(), [(2, -2, 0, 7), (3, -7, 7, 0)])
        error = refusal(self, BrokenSeam, views.check)
        self.assertEqual((error.seam, error.line, error.here, error.there), (2, -2, 0, 7))

    def test_the_last_seam(self):
        heaps = list(Views.of_sheet(SHEETS[1]))
        heaps[0] = heaps[0] + Spots([(1, 1, 1), (2, 0, -1)])
        self.assertEqual(heaps[0].sums(0), heaps[1].sums(0))
        views = Views(heaps)
        here = line_sums(heaps[5], 5)
        self.assertEqual(
            views.broken(),
            [(5, 1, here.get(1, 0), here.get(1, 0) + 1), (5, 2, here.get(2, 0), here.get(2, 0) - 1)],
        )

    def test_large_numbers(self):
        heaps = [Spots()] * 6
        heaps[0] = Spots([(FAR, FAR, FAR)])
        self.assertEqual(Views(heaps).broken(), [(0, 2 * FAR, FAR, 0), (5, FAR, 0, FAR)])

    def test_new_lists(self):
        views = TABLES[0]
        views.broken().clear()
        self.assertEqual(views.broken(), unlike(views))


class BoxTest(unittest.TestCase):
    def test_box(self):
        for views in TABLES:
            places = [(x, y) for heap in views for x, y, _ in heap]
            left, bottom = min(x for x, _ in places), min(y for _, y in places)
            right, top = max(x for x, _ in places), max(y for _, y in places)
            self.assertEqual(views.box(), (left, bottom, right, top))
            self.assertIs(type(views.box()), tuple)

    def test_single_heaps(self):
        for view in range(6):
            heaps = [Spots()] * 6
            heaps[view] = Spots([(4, -BIG, 1), (-2, 8, -1)])
            self.assertEqual(Views(heaps).box(), (-2, -BIG, 4, 8))

    def test_blank(self):
        self.assertIsNone(Views([Spots()] * 6).box())

    def test_corners_of_cells_lie_in_the_box(self):
        for sheet in SHEETS[1:]:
            left, bottom, right, top = Views.of_sheet(sheet).box()
            for x, y, kind, _ in sheet:
                for a, b in corner_set((x, y, kind)):
                    self.assertTrue(left <= a <= right and bottom <= b <= top)

    def test_box_of_a_pen(self):
        for counts in some_recipes():
            pen = Pen(reaches_of_recipe(counts))
            places = places_in(pen.reaches)
            xs, ys = [x for x, _ in places], [y for _, y in places]
            self.assertEqual(Views.of_pen(pen).box(), (min(xs), min(ys), max(xs), max(ys)))


if __name__ == "__main__":
    unittest.main()
