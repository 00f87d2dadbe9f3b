"""Points 15 to 18: pens."""

import random
import unittest

from sixviews.cells import STEPS, line_of
from sixviews.errors import BadCount, BadKind, NotClosed, NotDrawn, Nowhere
from sixviews.pens import Pen, check_drawn, inner_cells
from sixviews.turnings import Turning
from tests.helpers import (
    BIG, KIND_NAMES, LINES, UNIT_REACHES, cells_around, cells_in, corner_set, places_in, reaches_of_recipe, refusal,
    some_recipes,
)

DRAWN = [Pen(reaches_of_recipe(counts)) for counts in some_recipes()]
CROSSED = [Pen([0, 5, 0, 0, 0, 0]), Pen([-1, -1, -1, -1, -1, -1]), -Pen([2, 1, 0, 0, 0, 2]), Pen([1, 2, 3, 4, 5, 9])]


class ReachesTest(unittest.TestCase):
    def test_reaches_are_a_tuple(self):
        self.assertEqual(Pen([1, 2, 3, 4, 5, 6]).reaches, (1, 2, 3, 4, 5, 6))
        self.assertEqual(Pen(reaches=(1, 2, 3, 4, 5, 6)).reaches, (1, 2, 3, 4, 5, 6))

    def test_the_list_is_copied(self):
        reaches = [1, 1, 1, 1, 1, 1]
        pen = Pen(reaches)
        reaches[0] = 9
        self.assertEqual(pen.reaches, (1, 1, 1, 1, 1, 1))

    def test_lists_of_another_length(self):
        for reaches in ([], [0], [0] * 5, [0] * 7, (1,) * 12):
            self.assertEqual(refusal(self, BadCount, Pen, reaches).count, len(reaches))

    def test_corners_lie_on_two_lines(self):
        for pen in DRAWN + CROSSED:
            for i, corner in enumerate(pen.corners()):
                self.assertEqual(LINES[i - 1](*corner), pen.reaches[i - 1])
                self.assertEqual(LINES[i](*corner), pen.reaches[i])

    def test_corners_of_large_pens(self):
        pen = Pen([BIG, 1, 2, 3, 4, -BIG])
        self.assertEqual(pen.corners(), (
            (-BIG, 2 * BIG), (BIG - 1, 1), (-2, 1), (-2, -1), (1, -4), (-BIG, -4),
        ))

    def test_sides(self):
        self.assertEqual(Pen([2, 1, 0, 0, 0, 2]).sides(), (1, 1, 1, 0, 2, 0))
        self.assertEqual(Pen([1, 10, 100, 1000, 10000, 100000]).sides(), (
            100009, 91, 910, 9100, 91000, -89999,
        ))

    def test_sides_lead_from_corner_to_corner(self):
        for pen in DRAWN + CROSSED:
            corners, sides = pen.corners(), pen.sides()
            for i in range(6):
                step = STEPS[(i + 2) % 6]
                led = (corners[i][0] + sides[i] * step[0], corners[i][1] + sides[i] * step[1])
                self.assertEqual(corners[(i + 1) % 6], led)

    def test_area_and_rim(self):
        pen = Pen([2, 1, 0, 0, 0, 2])
        self.assertEqual([pen.area, pen.rim], [3, 5])
        crossed = Pen([0, 5, 0, 0, 0, 0])
        self.assertEqual([crossed.area, crossed.rim], [-25, 5])
        self.assertEqual([Pen.even(-2).area, Pen.even(-2).rim], [24, -12])

    def test_area_counts_triangles(self):
        for pen in DRAWN:
            self.assertEqual(pen.area, sum(kind in "uv" for _, _, kind in cells_in(pen.reaches)))

    def test_rim_is_the_sum_of_the_sides(self):
        for pen in DRAWN + CROSSED:
            self.assertEqual(pen.rim, sum(pen.sides()))

    def test_is_drawn(self):
        for pen in DRAWN:
            self.assertIs(pen.is_drawn, True)
        for pen in CROSSED:
            self.assertIs(pen.is_drawn, False)

    def test_dimension(self):
        self.assertEqual([Pen(UNIT_REACHES[kind]).dimension() for kind in "denwuv"], [0, 1, 1, 1, 2, 2])
        self.assertEqual(Pen([3, 2, -1, -3, -2, 1]).dimension(), 0)
        for counts in some_recipes():
            e, n, w, u, v = counts
            flat = u + v == 0 and (e > 0) + (n > 0) + (w > 0) <= 1
            self.assertEqual(Pen(reaches_of_recipe(counts)).dimension(), (1 if sum(counts) else 0) if flat else 2)

    def test_dimension_of_crossed_pens(self):
        self.assertEqual(refusal(self, NotDrawn, Pen([0, 5, 0, 0, 0, 0]).dimension).side, 1)
        self.assertEqual(refusal(self, NotDrawn, Pen.even(-1).dimension).side, 0)
        self.assertEqual(refusal(self, NotDrawn, Pen([1, 2, 3, 4, 5, 9]).dimension).side, 5)
        self.assertEqual(refusal(self, NotDrawn, check_drawn, Pen([0, 0, 0, BIG, 0, 0])).side, 3)


class ArithmeticTest(unittest.TestCase):
    def test_sums_and_differences(self):
        first, second = Pen([1, 2, 3, 4, 5, 6]), Pen([BIG, 0, -1, 7, 7, 7])
        self.assertEqual((first + second).reaches, (BIG + 1, 2, 2, 11, 12, 13))
        self.assertEqual((first - second).reaches, (1 - BIG, 2, 4, -3, -2, -1))
        self.assertEqual((-first).reaches, (-1, -2, -3, -4, -5, -6))

    def test_multiples_from_both_sides(self):
        pen = Pen([1, 2, 3, 4, 5, 6])
        for n in (0, 1, -1, 3, BIG):
            self.assertEqual((pen * n).reaches, tuple(reach * n for reach in pen.reaches))
            self.assertEqual((n * pen).reaches, tuple(reach * n for reach in pen.reaches))

    def test_sum_of_drawn_pens_has_all_sums_of_places(self):
        for first in DRAWN[::7]:
            for second in DRAWN[::5]:
                sums = {
                    (x + a, y + b)
                    for x, y in places_in(first.reaches)
                    for a, b in places_in(second.reaches)
                }
                self.assertEqual(sorted(sums), places_in((first + second).reaches))

    def test_other_kinds_of_operands(self):
        pen = Pen.even(1)
        for wrong in (lambda: pen + 1, lambda: pen - 1, lambda: pen * pen, lambda: pen * "2", lambda: "2" * pen):
            with self.assertRaises(TypeError):
                wrong()
        self.assertEqual(pen.reaches, (1, 1, 1, 1, 1, 1))

    def test_equality(self):
        self.assertTrue(Pen.even(1) == Pen([1] * 6))
        self.assertFalse(Pen.even(1) != Pen([1] * 6))
        self.assertFalse(Pen.even(1) == Pen([1, 1, 1, 1, 1, 2]))
        self.assertTrue(Pen.even(1) != Pen([1, 1, 1, 1, 1, 2]))


class LyingInTest(unittest.TestCase):
    def test_places(self):
        for pen in DRAWN[::3] + CROSSED:
            for x in range(-4, 7):
                for y in range(-4, 7):
                    lies = all(LINES[seam](x, y) <= pen.reaches[seam] for seam in range(6))
                    self.assertIs((x, y) in pen, lies)

    def test_cells(self):
        for pen in DRAWN[::5] + CROSSED:
            for cell in cells_around(4):
                lies = all(LINES[seam](x, y) <= pen.reaches[seam] for seam in range(6) for x, y in corner_set(cell))
                self.assertIs(pen.has(cell), lies)

    def test_crossed_pens_answer_by_their_reaches(self):
        pen = Pen([0, 5, 0, 0, 0, 0])
        self.assertFalse(pen.is_drawn)
        self.assertIs((0, 0) in pen, True)
        self.assertIs((0, 1) in pen, False)
        self.assertIs(pen.has((0, 0, "d")), True)
        self.assertIs(pen.has((0, 0, "n")), False)

    def test_large_pens(self):
        pen = Pen.even(BIG)
        self.assertIs((BIG, 0) in pen, True)
        self.assertIs((BIG, 1) in pen, False)
        self.assertIs(pen.has((BIG - 1, 0, "e")), True)
        self.assertIs(pen.has((BIG, 0, "e")), False)

    def test_unknown_kind(self):
        self.assertEqual(refusal(self, BadKind, Pen.even(1).has, (0, 0, "z")).kind, "z")

    def test_cells_inside(self):
        for pen in DRAWN:
            reaches = pen.reaches
            sided = [seam for seam in range(6) if reaches[seam] + reaches[seam - 3] > 0]
            inside = [
                cell for cell in cells_in(reaches)
                if not any(all(LINES[seam](*corner) == reaches[seam] for corner in corner_set(cell)) for seam in sided)
            ]
            self.assertEqual(inner_cells(pen), inside)

    def test_cells_inside_unit_pens(self):
        for kind in KIND_NAMES:
            self.assertEqual(inner_cells(Pen.unit(kind).moved(2, -1)), [(2, -1, kind)])


class MovedAndTurnedTest(unittest.TestCase):
    def test_moved(self):
        for pen in DRAWN[::4]:
            moved = sorted((x + 2, y - 3) for x, y in places_in(pen.reaches))
            self.assertEqual(places_in(pen.moved(2, -3).reaches), moved)
        self.assertEqual(Pen.even(0).moved(BIG, 1).reaches, (BIG + 1, 1, -BIG, -BIG - 1, -1, BIG))
        self.assertEqual(Pen.even(0).moved(dx=1, dy=0).reaches, (1, 0, -1, -1, 0, 1))

    def test_turned(self):
        for code in range(12):
            turning = Turning.coded(code)
            for pen in DRAWN[::4]:
                carried = sorted(turning.place_to(place) for place in places_in(pen.reaches))
                self.assertEqual(places_in(pen.turned(turning).reaches), carried)

    def test_turned_reaches(self):
        pen = Pen([1, 20, 300, 4000, 50000, 600000])
        for code in range(24):
            turning = Turning.coded(code)
            upright = Turning.coded(code % 12)
            reaches = [0] * 6
            for seam in range(6):
                reaches[upright.seam_to(seam)] = pen.reaches[seam]
            if code >= 12:
                reaches = [-reaches[(seam + 3) % 6] for seam in range(6)]
            self.assertEqual(pen.turned(turning).reaches, tuple(reaches))

    def test_inverted(self):
        pen = Pen([1, 2, 3, 4, 5, 6])
        self.assertEqual(pen.turned(Turning(inverted=True)).reaches, (-4, -5, -6, -1, -2, -3))


class MakingPensTest(unittest.TestCase):
    def test_around(self):
        pen = Pen.around([(0, 0), (2, 0), (0, 1)])
        self.assertEqual([pen.reaches, pen.sides(), pen.area], [(2, 1, 0, 0, 0, 2), (1, 1, 1, 0, 2, 0), 3])
        self.assertEqual(Pen.around(((BIG, 0),)).reaches, (BIG, 0, -BIG, -BIG, 0, BIG))

    def test_around_is_drawn_and_reaches_far_enough(self):
        dice = random.Random(3)
        for _ in range(60):
            places = [(dice.randint(-9, 9), dice.randint(-9, 9)) for _ in range(dice.randint(1, 5))]
            pen = Pen.around(places)
            self.assertTrue(pen.is_drawn)
            self.assertEqual(pen.reaches, tuple(max(line_of(seam, place) for place in places) for seam in range(6)))
            self.assertTrue(all(place in pen for place in places))

    def test_around_nothing(self):
        refusal(self, Nowhere, Pen.around, [])
        refusal(self, Nowhere, Pen.around, ())

    def test_units(self):
        for kind in KIND_NAMES:
            self.assertEqual(Pen.unit(kind).reaches, UNIT_REACHES[kind])

    def test_unit_of_an_unknown_kind(self):
        self.assertEqual(refusal(self, BadKind, Pen.unit, "a").kind, "a")

    def test_even(self):
        self.assertEqual(Pen.even(3).reaches, (3, 3, 3, 3, 3, 3))
        self.assertEqual(Pen.even(-BIG).reaches, (-BIG,) * 6)

    def test_of_sides(self):
        for pen in DRAWN + CROSSED:
            x, y = pen.corners()[0]
            self.assertEqual(Pen.of_sides(list(pen.sides()), x, y), pen)
            self.assertEqual(Pen.of_sides(pen.sides(), y=y, x=x), pen)
            self.assertEqual(Pen.of_sides(pen.sides()).corners()[0], (0, 0))
            self.assertEqual(Pen.of_sides(pen.sides()).sides(), pen.sides())

    def test_of_sides_that_do_not_close(self):
        self.assertEqual(refusal(self, NotClosed, Pen.of_sides, [1, 0, 0, 0, 0, 0]).gap, (-1, 1))
        self.assertEqual(refusal(self, NotClosed, Pen.of_sides, [0, 0, 0, 0, 0, BIG], 5, 5).gap, (0, BIG))
        self.assertEqual(refusal(self, NotClosed, Pen.of_sides, [1, 2, 3, 4, 5, 7]).gap, (6, 1))

    def test_of_sides_of_another_number(self):
        for sides in ([], [1] * 5, [1] * 7):
            self.assertEqual(refusal(self, BadCount, Pen.of_sides, sides).count, len(sides))


if __name__ == "__main__":
    unittest.main()
