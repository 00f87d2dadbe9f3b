"""Points 4 to 9: steps, views, seams and cells."""

import unittest

from sixviews.cells import (
    KINDS, STEPS, closure, corners_of, dimension, height, hanging, highest, line_of, lowest, rising, star,
)
from sixviews.errors import BadKind, BadView
from tests.helpers import BIG, HEIGHTS, KIND_NAMES, LINES, cells_around, corner_set, faces, refusal

PLACES = [(0, 0), (1, 0), (0, 1), (-2, 5), (7, -3), (BIG, -BIG), (10 ** 40 - 1, 3)]


class StepsTest(unittest.TestCase):
    def test_steps(self):
        self.assertEqual(STEPS, ((1, 0), (0, 1), (-1, 1), (-1, 0), (0, -1), (1, -1)))

    def test_kinds(self):
        self.assertEqual(KINDS, ("d", "e", "n", "u", "v", "w"))

    def test_neighbours_of_a_step_add_up_to_it(self):
        for i in range(6):
            before, after = STEPS[i - 1], STEPS[(i + 1) % 6]
            self.assertEqual((before[0] + after[0], before[1] + after[1]), STEPS[i])
            self.assertEqual((-STEPS[i][0], -STEPS[i][1]), STEPS[i - 3])


class ViewsAndSeamsTest(unittest.TestCase):
    def test_heights(self):
        for view in range(6):
            for place in PLACES:
                self.assertEqual(height(view, place), HEIGHTS[view](*place))

    def test_a_step_rises_or_falls(self):
        for view in range(6):
            rises = [step for step in range(6) if height(view, STEPS[step]) > 0]
            falls = [step for step in range(6) if height(view, STEPS[step]) < 0]
            self.assertEqual(rises, sorted([(view - 1) % 6, view, (view + 1) % 6]))
            self.assertEqual(len(falls), 3)

    def test_lines(self):
        for seam in range(6):
            for place in PLACES:
                self.assertEqual(line_of(seam, place), LINES[seam](*place))

    def test_lines_run_along_step_i_plus_2(self):
        for seam in range(6):
            self.assertEqual(line_of(seam, STEPS[(seam + 2) % 6]), 0)

    def test_lines_of_neighbours_add_up(self):
        for seam in range(6):
            for place in PLACES:
                both = line_of((seam - 1) % 6, place) + line_of((seam + 1) % 6, place)
                self.assertEqual(both, line_of(seam, place))
                self.assertEqual(line_of((seam + 3) % 6, place), -line_of(seam, place))

    def test_views_and_seams_that_there_are_not(self):
        for number in (-1, 6, -6, 7, BIG, -BIG):
            self.assertEqual(refusal(self, BadView, height, number, (0, 0)).view, number)
            self.assertEqual(refusal(self, BadView, line_of, number, (0, 0)).view, number)
            self.assertEqual(refusal(self, BadView, lowest, number, (0, 0, "d")).view, number)
            self.assertEqual(refusal(self, BadView, highest, number, (0, 0, "d")).view, number)
            self.assertEqual(refusal(self, BadView, rising, number, (0, 0)).view, number)
            self.assertEqual(refusal(self, BadView, hanging, number, (0, 0)).view, number)


class CellsTest(unittest.TestCase):
    def test_corners(self):
        self.assertEqual(corners_of((2, 3, "d")), [(2, 3)])
        self.assertEqual(corners_of((2, 3, "e")), [(2, 3), (3, 3)])
        self.assertEqual(corners_of((2, 3, "n")), [(2, 3), (2, 4)])
        self.assertEqual(corners_of((2, 3, "w")), [(1, 4), (2, 3)])
        self.assertEqual(corners_of((2, 3, "u")), [(2, 3), (2, 4), (3, 3)])
        self.assertEqual(corners_of((2, 3, "v")), [(1, 4), (2, 3), (2, 4)])

    def test_dimensions(self):
        self.assertEqual([dimension((0, 0, kind)) for kind in KINDS], [0, 1, 1, 2, 2, 1])

    def test_closures(self):
        for cell in cells_around(1):
            self.assertEqual(closure(cell), sorted(faces(cell)))

    def test_closure_of_triangles(self):
        self.assertEqual(closure((0, 0, "u")), [
            (0, 0, "d"), (0, 0, "e"), (0, 0, "n"), (0, 0, "u"), (0, 1, "d"), (1, 0, "d"), (1, 0, "w"),
        ])
        self.assertEqual(closure((0, 0, "v")), [
            (-1, 1, "d"), (-1, 1, "e"), (0, 0, "d"), (0, 0, "n"), (0, 0, "v"), (0, 0, "w"), (0, 1, "d"),
        ])

    def test_stars(self):
        for kind in KINDS:
            found = [cell for cell in cells_around(3) if (0, 0, kind) in faces(cell)]
            self.assertEqual(star((0, 0, kind)), found)
        self.assertEqual([len(star((0, 0, kind))) for kind in KINDS], [13, 3, 3, 1, 1, 3])

    def test_lowest_and_highest(self):
        for view in range(6):
            for cell in cells_around(1):
                ordered = sorted(corner_set(cell), key=lambda corner: HEIGHTS[view](*corner))
                self.assertEqual(lowest(view, cell), ordered[0])
                self.assertEqual(highest(view, cell), ordered[-1])

    def test_rising_and_hanging(self):
        cells = cells_around(4)
        for view in range(6):
            for place in ((0, 0), (1, -1)):
                self.assertEqual(rising(view, place), [cell for cell in cells if lowest(view, cell) == place])
                self.assertEqual(hanging(view, place), [cell for cell in cells if highest(view, cell) == place])
                self.assertEqual(sorted(kind for _, _, kind in rising(view, place)), KIND_NAMES)

    def test_example(self):
        self.assertEqual(rising(0, (0, 0)), [
            (0, 0, "d"), (0, 0, "e"), (0, 0, "n"), (0, 0, "u"), (1, -1, "v"), (1, -1, "w"),
        ])

    def test_places_of_40_digits(self):
        big = 10 ** 40 - 1
        self.assertEqual(corners_of((big, -big, "v")), [(big - 1, 1 - big), (big, -big), (big, 1 - big)])
        self.assertEqual(lowest(5, (big, -big, "w")), (big - 1, 1 - big))
        self.assertEqual(highest(5, (big, -big, "w")), (big, -big))
        for view in range(6):
            moved = [(x + big, y - big, kind) for x, y, kind in rising(view, (0, 0))]
            self.assertEqual(rising(view, (big, -big)), moved)
        self.assertEqual(star((big, -big, "d"))[0], (big - 1, -big, "e"))
        self.assertEqual(len(closure((big, -big, "u"))), 7)

    def test_unknown_kinds(self):
        for kind in ("x", "", "D", "de", "uv"):
            for call in (dimension, corners_of, closure, star):
                self.assertEqual(refusal(self, BadKind, call, (0, 0, kind)).kind, kind)
            self.assertEqual(refusal(self, BadKind, lowest, 0, (0, 0, kind)).kind, kind)
            self.assertEqual(refusal(self, BadKind, highest, 0, (0, 0, kind)).kind, kind)

    def test_the_view_is_checked_before_the_cell(self):
        self.assertEqual(refusal(self, BadView, lowest, 6, (0, 0, "x")).view, 6)
        self.assertEqual(refusal(self, BadView, highest, -1, (0, 0, "x")).view, -1)

    def test_returned_lists_are_new(self):
        for call, argument in ((corners_of, (0, 0, "u")), (closure, (0, 0, "u")), (star, (0, 0, "u"))):
            before = call(argument)
            call(argument).clear()
            self.assertEqual(call(argument), before)
        rising(0, (0, 0)).clear()
        hanging(0, (0, 0)).clear()
        self.assertEqual(len(rising(0, (0, 0))) + len(hanging(0, (0, 0))), 12)


if __name__ == "__main__":
    unittest.main()
