"""Points 10 and 11: turnings."""

import unittest

from sixviews.cells import STEPS, corners_of, height, line_of
from sixviews.errors import BadKind, BadTurning, BadView
from sixviews.turnings import Turning
from tests.helpers import BIG, cells_around, refusal

PLACES = [(0, 0), (1, 0), (0, 1), (2, -5), (BIG, 3)]


def mirrored_place(place):
    return (place[1], place[0])


def turned_place(place, turns):
    for _ in range(turns):
        place = (-place[1], place[0] + place[1])
    return place


class TurningTest(unittest.TestCase):
    def test_attributes_and_code(self):
        turning = Turning(2, mirrored=True, inverted=True)
        self.assertEqual([turning.turns, turning.mirrored, turning.inverted, turning.code], [2, True, True, 20])
        turning = Turning()
        self.assertEqual([turning.turns, turning.mirrored, turning.inverted, turning.code], [0, False, False, 0])
        self.assertEqual(Turning(5, mirrored=True).code, 11)
        self.assertEqual(Turning(5, inverted=True).code, 17)

    def test_turns_count_modulo_6(self):
        for turns in (-1, 5, 11, 6 * BIG - 1, -6 * BIG - 1):
            self.assertEqual(Turning(turns).turns, 5)
        self.assertEqual(Turning(turns=-12, mirrored=True).code, 6)

    def test_coded(self):
        for code in range(24):
            turning = Turning.coded(code)
            self.assertEqual(turning.code, code)
            self.assertEqual(turning.turns, code % 6)
            self.assertIs(turning.mirrored, code in range(6, 12) or code in range(18, 24))
            self.assertIs(turning.inverted, code >= 12)

    def test_codes_that_there_are_not(self):
        for code in (-1, 24, 25, BIG, -BIG):
            self.assertEqual(refusal(self, BadTurning, Turning.coded, code).number, code)

    def test_places(self):
        for code in range(24):
            for place in PLACES:
                start = mirrored_place(place) if code % 12 >= 6 else place
                self.assertEqual(Turning.coded(code).place_to(place), turned_place(start, code % 6))

    def test_a_turn_carries_step_i_to_step_i_plus_1(self):
        for step in range(6):
            self.assertEqual(Turning(1).place_to(STEPS[step]), STEPS[(step + 1) % 6])

    def test_cells(self):
        for code in range(24):
            turning = Turning.coded(code)
            for cell in cells_around(1):
                carried = sorted(turning.place_to(corner) for corner in corners_of(cell))
                self.assertEqual(corners_of(turning.cell_to(cell)), carried)

    def test_large_cells(self):
        self.assertEqual(Turning(1).cell_to((BIG, 1, "u")), (-1, BIG + 1, "v"))
        self.assertEqual(Turning(0, mirrored=True).cell_to((BIG, 1, "w")), (2, BIG - 1, "w"))

    def test_unknown_kind(self):
        self.assertEqual(refusal(self, BadKind, Turning(1).cell_to, (0, 0, "q")).kind, "q")

    def test_views_and_seams(self):
        mirror, turn, inside_out = Turning(mirrored=True), Turning(1), Turning(inverted=True)
        for i in range(6):
            self.assertEqual(mirror.view_to(i), (1 - i) % 6)
            self.assertEqual(mirror.seam_to(i), -i % 6)
            self.assertEqual(turn.view_to(i), (i + 1) % 6)
            self.assertEqual(turn.seam_to(i), (i + 1) % 6)
            self.assertEqual(inside_out.view_to(i), (i + 3) % 6)
            self.assertEqual(inside_out.seam_to(i), i)

    def test_lines_are_kept(self):
        for code in range(24):
            turning = Turning.coded(code)
            for seam in range(6):
                for place in PLACES:
                    carried = turning.place_to(place)
                    self.assertEqual(line_of(turning.seam_to(seam), carried), line_of(seam, place))

    def test_heights_are_kept_or_turned_over(self):
        for code in range(24):
            turning = Turning.coded(code)
            for view in range(6):
                found = height(turning.view_to(view), turning.place_to((3, 5)))
                self.assertEqual(found, height(view, (3, 5)) * (-1 if code >= 12 else 1))

    def test_bad_views_and_seams(self):
        for number in (-1, 6, BIG):
            self.assertEqual(refusal(self, BadView, Turning(1).view_to, number).view, number)
            self.assertEqual(refusal(self, BadView, Turning(1).seam_to, number).view, number)

    def test_then(self):
        cells = cells_around(1)
        for code in range(24):
            for other in range(24):
                first, second = Turning.coded(code), Turning.coded(other)
                both = first.then(second)
                self.assertEqual([second.cell_to(first.cell_to(cell)) for cell in cells[:20]],
                                 [both.cell_to(cell) for cell in cells[:20]])
                self.assertIs(both.inverted, first.inverted != second.inverted)
                self.assertIs(both.mirrored, first.mirrored != second.mirrored)
                for number in range(6):
                    self.assertEqual(both.view_to(number), second.view_to(first.view_to(number)))
                    self.assertEqual(both.seam_to(number), second.seam_to(first.seam_to(number)))

    def test_back(self):
        for code in range(24):
            turning = Turning.coded(code)
            self.assertEqual(turning.then(turning.back()).code, 0)
            self.assertEqual(turning.back().then(turning).code, 0)

    def test_equality(self):
        for code in range(24):
            for other in range(24):
                self.assertIs(Turning.coded(code) == Turning.coded(other), code == other)
                self.assertIs(Turning.coded(code) != Turning.coded(other), code != other)
        self.assertTrue(Turning(7) == Turning(1))


if __name__ == "__main__":
    unittest.main()
