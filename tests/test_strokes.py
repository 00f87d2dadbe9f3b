"""Points 29, 30 and 32: sheets of paths, strokes, stays and far inks."""

import random
import unittest
from fractions import Fraction

from sixviews.errors import BadKind, NotDrawn, TooHeavy
from sixviews.filled import sheet_of
from sixviews.paths import Path
from sixviews.pens import Pen
from sixviews.reading import ink_at
from sixviews.sheets import Sheet, sweep_of
from sixviews.strokes import far_ink, path_sheet, stays, stroke
from sixviews.views import Views
from tests.helpers import (
    BIG, LINES, STEP, cells_around, corner_set, reaches_of_recipe, refusal, some_recipes, walked_rows,
)

FAR = 10 ** 40 - 1
RUNS = [
    [], [(0, 3), (3, 5)], [(1, 2)], [(0, 1), (2, 1), (4, 1)], [(step, 2) for step in range(6)],
    [(1, 2), (4, 2), (1, 2)], [(5, 2), (3, 1), (0, 4)],
]
LONG = [((k + k // 6 * 2) % 6, BIG + k) for k in range(100)]


def some_runs(seed, many=5):
    """Runs of a short path, the same ones for the same seed."""
    dice = random.Random(seed)
    return [(dice.randrange(6), dice.randint(1, 3)) for _ in range(many)]


def counted_stays(reaches, runs, cell):
    """The number of stays by point 30 alone: stretches of time during which the middle lies in the moved pen."""
    corners = corner_set(cell)
    middle = (Fraction(sum(x for x, _ in corners), len(corners)), Fraction(sum(y for _, y in corners), len(corners)))
    place = (0, 0)
    steps = [STEP[step] for step, length in runs for _ in range(length)]
    stretches = [covered(reaches, middle, place, (0, 0), 0)]
    for time, (dx, dy) in enumerate(steps):
        stretches.append(covered(reaches, middle, place, (dx, dy), time))
        place = (place[0] + dx, place[1] + dy)
    count, end = 0, None
    for stretch in stretches:
        if stretch is None:
            continue
        if end is None or stretch[0] > end:
            count += 1
        end = stretch[1]
    return count


def covered(reaches, middle, place, step, time):
    """The stretch of the time from `time` to `time` + 1 in which the pen that leaves the place covers the middle."""
    low, high = Fraction(0), Fraction(1) if step != (0, 0) else Fraction(0)
    for seam in range(6):
        # The line number of the middle, seen from the pen, is start - speed * time.
        start = LINES[seam](middle[0] - place[0], middle[1] - place[1])
        speed = LINES[seam](*step)
        if speed > 0:
            low = max(low, (start - reaches[seam]) / speed)
        elif speed < 0:
            high = min(high, (start - reaches[seam]) / speed)
        elif start > reaches[seam]:
            return None
    return (time + low, time + high) if low <= high else None


class PathSheetTest(unittest.TestCase):
    def test_definition(self):
        for runs in RUNS + [some_runs(seed) for seed in range(10)]:
            self.assertEqual(path_sheet(path=Path(runs)), Sheet(walked_rows(runs)))

    def test_cells_that_are_passed_several_times(self):
        self.assertEqual(path_sheet(Path([(1, 1), (4, 1), (1, 1)])).text(), "0,0,d:2 0,0,n:3 0,1,d:2")
        self.assertEqual(path_sheet(Path()).text(), "0,0,d:1")

    def test_views(self):
        for runs in RUNS:
            self.assertEqual(Views.of_sheet(path_sheet(Path(runs))), Views.of_path(Path(runs)))
            self.assertEqual(path_sheet(Path(runs)).euler, 1)

    def test_200_steps(self):
        self.assertEqual(path_sheet(Path([(0, 200)])).many, 401)
        zigzag = Path([(0, 50), (1, 50)] * 2)
        self.assertEqual((zigzag.steps, path_sheet(zigzag).strokes), (200, 200))

    def test_more_steps(self):
        for runs, steps in (([(0, 201)], 201), ([(0, 100), (3, 101)], 201), ([(2, FAR), (5, FAR)], 2 * FAR)):
            path = Path(runs)
            self.assertEqual(refusal(self, TooHeavy, path_sheet, path).weight, steps)
            self.assertEqual(path.runs, tuple(runs))


class StrokeTest(unittest.TestCase):
    def test_sweeps(self):
        for counts in some_recipes()[::9]:
            pen = Pen(reaches_of_recipe(counts))
            for runs in RUNS:
                sheet = stroke(pen=pen, path=Path(runs))
                self.assertEqual(sheet, sweep_of(sheet_of(pen), Sheet(walked_rows(runs))))
                self.assertEqual(Views.of_sheet(sheet), Views.of_pen(pen) * Views.of_path(Path(runs)))

    def test_crossed_pens(self):
        pen = Pen([0, 2, 0, 0, 0, -1])
        self.assertFalse(pen.is_drawn)
        sheet = stroke(pen, Path([(0, 2), (4, 3)]))
        self.assertEqual(Views.of_sheet(sheet), Views.of_pen(pen) * Views.of_path(Path([(0, 2), (4, 3)])))

    def test_a_still_path(self):
        self.assertEqual(stroke(Pen.even(2), Path()), sheet_of(Pen.even(2)))

    def test_refusals_and_their_order(self):
        wide, far = Pen.even(FAR), Path([(0, FAR)])
        self.assertEqual(refusal(self, TooHeavy, stroke, wide, far).weight, (2 * FAR + 1) ** 2)
        self.assertEqual(refusal(self, TooHeavy, stroke, Pen.even(1), far).weight, FAR)
        self.assertEqual(refusal(self, TooHeavy, stroke, Pen.even(3), Path([(0, 201)])).weight, 201)
        # The pen has 37 + 90 + 54 cells, the path 2 * 200 + 1.
        self.assertEqual(refusal(self, TooHeavy, stroke, Pen.even(3), Path([(0, 200)])).weight, 181 * 401)
        self.assertEqual(refusal(self, TooHeavy, stroke, Pen.unit("u"), Path([(0, 286)])).weight, 286)
        self.assertEqual((wide.reaches, far.runs), ((FAR,) * 6, ((0, FAR),)))

    def test_sweeps_of_the_weight_4000(self):
        # 5 cells times 401, and 20 times 200.
        self.assertEqual(stroke(Pen.unit("e") * 2, Path([(1, 200)])).dots, 3 * 201)
        self.assertEqual(refusal(self, TooHeavy, stroke, Pen.unit("e") * 5, Path([(1, 200)])).weight, 11 * 401)


class StaysTest(unittest.TestCase):
    def test_example(self):
        path = Path([(0, 3), (3, 5)])
        self.assertEqual(stays(Pen.unit("e"), path, (1, 0, "d")), 2)
        self.assertEqual([path.end, path.knees()], [(-2, 0), [(0, 0), (3, 0), (-2, 0)]])

    def test_stretches_of_time(self):
        pens = [
            (0,) * 6, (1, 0, 0, 0, 0, 1), (0, 1, 1, 0, 0, 0), (1, 1, 0, 0, 0, 1), (1, 1, 1, 0, 0, 0), (2, 1, 0, 0, 0, 2),
            (1,) * 6, (2, 1, -1, -1, 0, 1),
        ]
        cells = cells_around(3)
        for at, reaches in enumerate(pens):
            pen = Pen(reaches)
            self.assertTrue(pen.is_drawn)
            for runs in RUNS[at % 3::3] + [some_runs(at)]:
                path = Path(runs)
                sheet = stroke(pen, path)
                for cell in cells:
                    self.assertEqual(sheet[cell], counted_stays(reaches, runs, cell), (reaches, runs, cell))
                for cell in cells[at::11]:
                    self.assertEqual(stays(pen, path, cell), sheet[cell])

    def test_large_pens(self):
        pen = Pen.even(FAR)
        path = Path([(0, 2), (3, 4), (0, 4), (3, 2)])
        self.assertEqual(stays(cell=(FAR, 0, "d"), path=path, pen=pen), 2)
        self.assertEqual(stays(pen, path, (FAR + 1, 0, "d")), 2)
        self.assertEqual(stays(pen, path, (FAR + 2, 0, "d")), 2)
        self.assertEqual(stays(pen, path, (FAR + 2, 0, "e")), 0)
        self.assertEqual(stays(pen, path, (-FAR - 1, 0, "d")), 1)
        self.assertEqual(stays(pen, path, (-FAR - 2, 0, "d")), 1)
        self.assertEqual(stays(pen, path, (0, 0, "v")), 1)

    def test_200_steps(self):
        zigzag = Path([(0, 1), (3, 1)] * 100)
        self.assertEqual((zigzag.steps, len(zigzag.runs)), (200, 200))
        self.assertEqual(stays(Pen.even(0), zigzag, (0, 0, "d")), 101)
        self.assertEqual(stays(Pen.even(0), zigzag, (0, 0, "e")), 200)
        self.assertEqual(stays(Pen.unit("e"), zigzag, (0, 0, "e")), 101)

    def test_refusals_and_their_order(self):
        crossed, far = Pen([0, 5, 0, 0, 0, 0]), Path([(0, 1), (1, 200)])
        cell = (0, 0, "z")
        self.assertEqual(refusal(self, NotDrawn, stays, crossed, far, cell).side, 1)
        self.assertEqual(refusal(self, TooHeavy, stays, Pen.even(1), far, cell).weight, 201)
        self.assertEqual(refusal(self, TooHeavy, stays, Pen.even(1), Path([(4, FAR)]), cell).weight, FAR)
        self.assertEqual(refusal(self, BadKind, stays, Pen.even(1), Path([(0, 200)]), cell).kind, "z")
        self.assertEqual((crossed.reaches, far.runs), ((0, 5, 0, 0, 0, 0), ((0, 1), (1, 200))))


class FarInkTest(unittest.TestCase):
    def test_example(self):
        self.assertEqual(far_ink(Pen.even(10 ** 30), Path([(0, 3), (3, 5)]), (10 ** 30, 0, "e")), 1)

    def test_strokes(self):
        for reaches in ((1, 0, 0, 0, 0, 1), (2, 1, 0, 0, 0, 2), (0, 2, 0, 0, 0, -1), (-1,) * 6):
            for runs in RUNS:
                sheet = stroke(Pen(reaches), Path(runs))
                for cell in cells_around(4)[::3]:
                    self.assertEqual(far_ink(Pen(reaches), Path(runs), cell), sheet[cell])

    def test_long_paths(self):
        path = Path([(0, FAR), (2, 5), (3, FAR), (4, FAR)])
        dot = Pen.even(0)
        self.assertEqual(far_ink(dot, path, (FAR // 2, 0, "e")), 1)
        self.assertEqual(far_ink(dot, path, (FAR // 2, 1, "e")), 0)
        self.assertEqual(far_ink(dot, path, (FAR - 3, 3, "w")), 1)
        self.assertEqual(far_ink(dot, path, (FAR // 2, 5, "d")), 1)
        self.assertEqual(far_ink(Pen.unit("n"), path, (FAR // 2, 0, "n")), 1)
        self.assertEqual(far_ink(Pen.unit("n") * 5, path, (FAR // 2, 5, "d")), 2)
        self.assertEqual(far_ink(Pen.unit("n") * -3, path, (FAR // 2, -1, "u")), -1)

    def test_there_and_back(self):
        # Each way there and back passes each stroke twice.
        path = Path([(1, FAR), (4, FAR)] * 50)
        self.assertEqual(len(path.runs), 100)
        self.assertEqual(far_ink(Pen.even(0), path, (0, BIG, "n")), 100)
        self.assertEqual(far_ink(Pen.even(0), path, (0, 0, "d")), 51)
        self.assertEqual(far_ink(Pen.even(0), path, (0, FAR, "d")), 50)
        self.assertEqual(far_ink(path=path, cell=(0, FAR, "n"), pen=Pen.even(1)), 50)

    def test_paths_of_100_long_runs(self):
        path = Path(LONG)
        self.assertEqual(len(path.runs), 100)
        for reaches in ((FAR, BIG, 3, BIG, FAR, 7), (BIG,) * 6):
            views = Views.of_pen(Pen(reaches)) * Views.of_path(path)
            for x, y in path.knees()[::9]:
                for kind in "dnv":
                    self.assertEqual(far_ink(Pen(reaches), path, (x, y, kind)), ink_at(views, (x, y, kind)))

    def test_kinds_that_there_are_not(self):
        pen, path = Pen.even(FAR), Path(LONG)
        self.assertEqual(refusal(self, BadKind, far_ink, pen, path, (0, 0, "x")).kind, "x")
        self.assertEqual((pen.reaches, path.runs), ((FAR,) * 6, tuple(LONG)))


if __name__ == "__main__":
    unittest.main()
