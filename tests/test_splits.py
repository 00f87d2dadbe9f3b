"""Point 47: sheets that are parted and put together again."""

import unittest

from sixviews.errors import BadCount, TooHeavy, UnlikeEuler
from sixviews.rows import Row
from sixviews.shadows import lift, shadows
from sixviews.sheets import Sheet
from sixviews.splits import parted, put_together
from sixviews.spots import Spots
from sixviews.tufts import tuft, tufted
from sixviews.views import Views
from tests.helpers import BIG, refusal, some_rows, some_spots
from tests.test_shadows import lifted_heaps

FAR = 10 ** 40 - 1
SHEETS = [Sheet()] + [Sheet(some_rows(seed)) for seed in range(10)]
BLANK = [Spots()] * 6
DOT = Row([(0, "d", 1)])


def joint_places(sheet):
    """The number of the places of the smallest box around the views of the sheet and those of the lift."""
    heaps = list(Views.of_sheet(sheet)) + lifted_heaps(shadows(sheet))
    places = [(x, y) for heap in heaps for x, y, _ in heap]
    xs, ys = [x for x, _ in places], [y for _, y in places]
    return (max(xs) - min(xs) + 1) * (max(ys) - min(ys) + 1)


class PartedTest(unittest.TestCase):
    def test_example(self):
        rows, heaps = parted(Sheet.of((0, 0, "d"), (0, 0, "e")))
        self.assertEqual(
            [list(rows[0]), list(rows[1]), list(rows[2]), list(heaps[2]), list(heaps[3])],
            [[(0, "d", 1), (0, "g", 1)], [], [(-1, "g", 1), (0, "d", 1)], [], [(0, 0, -1)]],
        )

    def test_the_parts_make_up_the_sheet(self):
        for sheet in SHEETS:
            found = parted(sheet=sheet)
            rows, heaps = found
            self.assertEqual([type(found), type(rows), type(heaps)], [tuple] * 3)
            self.assertEqual((len(rows), len(heaps)), (3, 6))
            self.assertEqual(rows, shadows(sheet))
            total = lift(rows)
            for view, heap in enumerate(heaps):
                total = total + tufted(view, heap)
            self.assertEqual(total, sheet)

    def test_there_is_only_one_way(self):
        for seed in range(4):
            rows = shadows(SHEETS[seed + 1])
            heaps = tuple(Spots(some_spots(6 * seed + view, 3, 2)) for view in range(6))
            sheet = lift(rows)
            for view in range(6):
                sheet = sheet + tufted(view, heaps[view])
            self.assertEqual(parted(sheet), (rows, heaps))

    def test_blank_parts(self):
        self.assertEqual(parted(Sheet()), ((Row(),) * 3, (Spots(),) * 6))
        self.assertEqual(parted(Sheet.dot(ink=FAR)), ((Row([(0, "d", FAR)]),) * 3, (Spots(),) * 6))
        for view in range(6):
            heaps = [Spots([(BIG, -FAR, FAR)]) if other == view else Spots() for other in range(6)]
            self.assertEqual(parted(tuft(view, (BIG, -FAR)) * FAR), ((Row(),) * 3, tuple(heaps)))

    def test_sheets_with_the_same_shadows(self):
        # Their difference is a sum of tufted sheets, so its rows are blank.
        for seed in range(4):
            other = SHEETS[seed + 1] + tufted(seed, Spots(some_spots(seed))) - tuft(5, (2, 2))
            self.assertEqual(shadows(other), shadows(SHEETS[seed + 1]))
            rows, heaps = parted(other - SHEETS[seed + 1])
            self.assertEqual(rows, (Row(),) * 3)
            self.assertEqual(heaps[seed], Spots(some_spots(seed)))

    def test_boxes(self):
        # The dot at (19, 19) has shadows whose lift has spots further out than the dot.
        near = [Sheet.dot(x, y) for x, y in ((6, 6), (-9, 4), (0, 19), (399, -399), (19, 0), (10, 10), (9, 9), (0, 20))]
        far = [Sheet.dot(FAR, 0), Sheet.dot(-BIG, FAR) - Sheet.dot(1, 1), Sheet.dot() + tuft(3, (0, 400))]
        wide = [tufted(2, Spots([(0, 0, 1), (x, y, -1)])) for x, y in ((18, 18), (19, 18), (18, 17), (198, 0), (199, 0))]
        refused = 0
        for sheet in near + far + wide:
            places = joint_places(sheet)
            before = list(sheet)
            if places > 400:
                refused += 1
                self.assertEqual(refusal(self, TooHeavy, parted, sheet).weight, places)
                self.assertEqual(list(sheet), before)
            else:
                self.assertEqual(put_together(*parted(sheet)), sheet)
        self.assertTrue(5 < refused < 12, refused)

    def test_boxes_of_400_places(self):
        # A tuft of view 0 has the spots (0, 0), (-1, 0), (-1, 1) and (0, -1), moved by its place.
        self.assertEqual(joint_places(tufted(0, Spots([(0, 0, 1), (18, 17, 1)]))), 400)
        self.assertEqual(parted(tufted(0, Spots([(0, 0, 1), (18, 17, 1)])))[1][0], Spots([(0, 0, 1), (18, 17, 1)]))
        sheet = tufted(0, Spots([(0, 0, 1), (18, 18, 1)]))
        self.assertEqual(refusal(self, TooHeavy, parted, sheet).weight, 420)

    def test_the_box_around_both_counts(self):
        # Neither the box of the views nor that of the lift has more than 400 places, but the one around both has.
        for x, y, places in ((-8, 0, 450), (-8, 5, 405), (-7, -4, 848)):
            sheet = Sheet.dot(x, y) + tuft(0, (0, 40))
            for views in (Views.of_sheet(sheet), Views(lifted_heaps(shadows(sheet)))):
                left, bottom, right, top = views.box()
                self.assertLessEqual((right - left + 1) * (top - bottom + 1), 400)
            self.assertEqual(joint_places(sheet), places)
            self.assertEqual(refusal(self, TooHeavy, parted, sheet).weight, places)


class PutTogetherTest(unittest.TestCase):
    def test_definition(self):
        for seed in range(5):
            rows = list(shadows(SHEETS[seed + 1]))
            heaps = [Spots(some_spots(seed + view)) for view in range(6)]
            expected = lift(rows)
            for view in range(6):
                expected = expected + tufted(view, heaps[view])
            self.assertEqual(put_together(rows=rows, heaps=heaps), expected)
            self.assertEqual(put_together(tuple(rows), tuple(heaps)), expected)
            self.assertEqual(shadows(put_together(rows, heaps)), tuple(rows))

    def test_only_the_box_of_the_lift_counts(self):
        heaps = BLANK[:5] + [Spots([(0, 0, 1), (FAR, FAR, FAR)])]
        self.assertEqual(put_together([DOT] * 3, heaps), Sheet.dot() + tuft(5, (0, 0)) + tuft(5, (FAR, FAR)) * FAR)
        rows = [Row.stretch(0, 20), DOT, DOT]
        self.assertEqual(refusal(self, TooHeavy, put_together, rows, BLANK).weight, 441)
        self.assertEqual(put_together([Row()] * 3, BLANK), Sheet())

    def test_refusals_and_their_order(self):
        two, far = Row([(0, "d", 2)]), Row([(FAR, "d", 1)])
        for rows in ([], [DOT], [DOT, two], [DOT, two, far, far]):
            self.assertEqual(refusal(self, BadCount, put_together, rows, []).count, len(rows))
        self.assertEqual(refusal(self, UnlikeEuler, put_together, [far, two, DOT], []).at, 1)
        self.assertEqual(refusal(self, UnlikeEuler, put_together, [far, DOT, two], BLANK).at, 2)
        for heaps in ([], BLANK[:5], BLANK + BLANK):
            before = list(heaps)
            self.assertEqual(refusal(self, BadCount, put_together, [far] * 3, heaps).count, len(heaps))
            self.assertEqual(heaps, before)
        places = Views(lifted_heaps([far] * 3)).box()
        weight = (places[2] - places[0] + 1) * (places[3] - places[1] + 1)
        self.assertEqual(refusal(self, TooHeavy, put_together, [far] * 3, BLANK).weight, weight)


if __name__ == "__main__":
    unittest.main()
