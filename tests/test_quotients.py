"""Points 40 and 41: quotients of sheets."""

import itertools
import unittest

from sixviews.dividing import divided
from sixviews.errors import BlankView, BrokenSeam, NoQuotient, TooHeavy, UnlikeTotals
from sixviews.filled import sheet_of
from sixviews.pens import Pen
from sixviews.quotients import any_quotient, quotient
from sixviews.sheets import Sheet, joined, sweep_of
from sixviews.spots import Spots
from sixviews.tufts import tuft, tufted
from sixviews.views import Views
from tests.helpers import BIG, STEP, refusal, some_rows, some_spots, views_of

FAR = 10 ** 40 - 1
SHEETS = [Sheet(some_rows(seed, 5, 2)) for seed in range(12)]
SEEN = [sheet for sheet in SHEETS if {} not in views_of(sheet)]


def seen_in(views, seed=0):
    """A sheet that is seen in these views alone."""
    return joined(*[tufted(view, Spots(some_spots(seed + view, 3, 1))) for view in views])


def strokes_along(step, many):
    """A closed stretch of strokes from (0, 0), of any length."""
    places = [(k * STEP[step][0], k * STEP[step][1]) for k in range(many + 1)]
    return Sheet([(x, y, "d", 1) for x, y in places] + [(x, y, "enw"[step], 1) for x, y in places[:-1]])


def sums_of(heap, seam):
    """The sums of a heap on the ruled lines of a seam as a dict, by point 12."""
    lines = [lambda x, y: x + y, lambda x, y: y, lambda x, y: -x, lambda x, y: -x - y, lambda x, y: -y, lambda x, y: x]
    sums = {}
    for x, y, ink in heap:
        sums[lines[seam](x, y)] = sums.get(lines[seam](x, y), 0) + ink
    return sums


def filled_table(heaps):
    """The table of point 41 from the six quotient heaps, None for a view that is not seen."""
    totals = [sum(ink for _, _, ink in heap) for heap in heaps if heap is not None]
    euler = totals[0] if totals else 0
    ends = []
    for seam in range(6):
        beside = [heap for heap in (heaps[seam], heaps[(seam + 1) % 6]) if heap is not None]
        ends.append(sums_of(beside[0], seam) if beside else {0: euler})
    table = []
    for view in range(6):
        if heaps[view] is not None:
            table.append(heaps[view])
            continue
        (a, b), (c, d) = STEP[view - 1], STEP[(view + 1) % 6]
        rows = [(t * a, t * b, ink) for t, ink in ends[view - 1].items()]
        rows += [(t * c, t * d, ink) for t, ink in ends[view].items()]
        table.append(Spots(rows + [(0, 0, -euler)]))
    return Views(table)


class QuotientTest(unittest.TestCase):
    def test_sweeps_are_divided(self):
        for first in SHEETS:
            for second in SEEN:
                self.assertEqual(quotient(sheet=sweep_of(first, second), divisor=second), first)

    def test_example_of_point_21(self):
        product = Sheet.of((0, 0, "e")) * Sheet.of((0, 0, "n"))
        self.assertEqual(product.text(), "0,0,u:1 1,0,v:1 1,0,w:1")
        self.assertEqual(quotient(product, Sheet.of((0, 0, "e"))), Sheet.of((0, 0, "n")))

    def test_blank_sheets(self):
        for divisor in SEEN:
            self.assertEqual(quotient(Sheet(), divisor), Sheet())

    def test_erasers(self):
        pen = Pen([2, 1, 0, 0, 0, 2])
        self.assertEqual(quotient(Sheet.dot(), sheet_of(pen)), sheet_of(-pen))
        self.assertEqual(quotient(Sheet.dot(3, BIG, ink=-FAR), sheet_of(pen) * -1), sheet_of(-pen).moved(3, BIG) * FAR)

    def test_large_places_and_inks(self):
        first, second = SHEETS[0].moved(FAR, -FAR) * FAR, SEEN[0].moved(-BIG, 3) * BIG
        self.assertEqual(quotient(sweep_of(first, second), second), first)

    def test_blank_views(self):
        for views in ([0, 1, 2, 3, 4], [5], [0, 2], [1, 3, 4, 5], []):
            divisor = seen_in(views)
            least = min(set(range(6)) - set(views))
            for sheet in (Sheet(), Sheet.dot(), divisor, Sheet.dot() + Sheet.dot(FAR, FAR)):
                before = [list(sheet), list(divisor)]
                self.assertEqual(refusal(self, BlankView, quotient, sheet, divisor).view, least)
                self.assertEqual([list(sheet), list(divisor)], before)

    def test_views_that_cannot_be_divided(self):
        # A tuft makes one view of the sheet alone one that cannot be divided by 2.
        for view in range(6):
            for other in range(view, 6):
                sheet = Sheet.dot(ink=2) + tuft(view, (1, 1)) + tuft(other, (3, 0)) * 3
                self.assertEqual(refusal(self, NoQuotient, quotient, sheet, Sheet.dot(ink=2)).view, view)
                self.assertEqual(refusal(self, NoQuotient, any_quotient, sheet, Sheet.dot(ink=2)).view, view)
        self.assertEqual(refusal(self, NoQuotient, quotient, Sheet.dot(), Sheet.dot() + Sheet.dot(1, 0)).view, 0)

    def test_heavy_views(self):
        wide = Sheet.dot() + Sheet.dot(399, 0)
        self.assertEqual(quotient(wide, Sheet.dot()), wide)
        for call in (quotient, any_quotient):
            self.assertEqual(refusal(self, TooHeavy, call, Sheet.dot() + Sheet.dot(400, 0), Sheet.dot()).weight, 401)
            # View 0 is too heavy, view 1 cannot be divided, and the other way round.
            heavy, odd = tufted(0, Spots([(0, 0, 2), (0, 399, 2)])), tuft(1, (0, 0))
            self.assertEqual(refusal(self, TooHeavy, call, heavy + odd, Sheet.dot(ink=2)).weight, 2 * 402)
            heavy, odd = tufted(1, Spots([(0, 0, 2), (0, 399, 2)])), tuft(0, (0, 0))
            self.assertEqual(refusal(self, NoQuotient, call, heavy + odd, Sheet.dot(ink=2)).view, 0)

    def test_broken_seams(self):
        # Each view of the divisor has the sum 0 on each line of its seams, so the quotient heaps may be any.
        divisor = joined(*[tuft(view, (0, 0)) for view in range(6)])
        heaps = [Spots(some_spots(view, 3, 2)) for view in range(6)]
        sheet = joined(*[tufted(view, heaps[view]) for view in range(6)])
        before = [list(sheet), list(divisor)]
        for call in (quotient, any_quotient):
            error = refusal(self, BrokenSeam, call, sheet, divisor)
            self.assertEqual((error.seam, error.line, error.here, error.there), Views(heaps).broken()[0])
        self.assertEqual([list(sheet), list(divisor)], before)
        # Broken seams come before a box that is too large.
        far = joined(*[tuft(view, (0, FAR * view)) for view in range(6)])
        error = refusal(self, BrokenSeam, quotient, far, divisor)
        self.assertEqual((error.seam, error.line, error.here, error.there), (0, 0, 1, 0))

    def test_heavy_sheets(self):
        # The quotient heaps are single spots, but 401 places apart.
        for step in range(3):
            sheet = strokes_along(step, 400)
            places = 401 * 401 if step == 2 else 401
            for call in (quotient, any_quotient):
                self.assertEqual(refusal(self, TooHeavy, call, sheet, Sheet.dot()).weight, places)
        self.assertEqual(quotient(strokes_along(0, 399), Sheet.dot()), strokes_along(0, 399))


class AnyQuotientTest(unittest.TestCase):
    def some_seen(self):
        """All sets of seen views: none, one, neighbours and others."""
        return [views for many in range(6) for views in itertools.combinations(range(6), many)]

    def test_no_blank_view(self):
        for first in SHEETS[:6]:
            for second in SEEN:
                self.assertEqual(any_quotient(sheet=sweep_of(first, second), divisor=second), first)

    def test_sweeps_are_divided(self):
        for seed, views in enumerate(self.some_seen()):
            divisor = seen_in(views, seed)
            first = SHEETS[seed % len(SHEETS)]
            sheet = sweep_of(first, divisor)
            try:
                found = any_quotient(sheet, divisor)
            except TooHeavy:
                continue
            self.assertEqual(sweep_of(found, divisor), sheet)

    def test_the_filled_table(self):
        drawn = 0
        for seed, views in enumerate(self.some_seen()):
            divisor = seen_in(views, seed)
            for first in (SHEETS[seed % len(SHEETS)], Sheet.dot(1, -1, ink=3) + Sheet.of((0, 0, "v")), Sheet.dot()):
                its = Views.of_sheet(first)
                table = filled_table([its[view] if view in views else None for view in range(6)])
                self.assertEqual(table.broken(), [])
                left, bottom, right, top = table.box() or (0, 0, 0, 0)
                places = (right - left + 1) * (top - bottom + 1)
                sheet = sweep_of(first, divisor)
                if places > 400:
                    self.assertEqual(refusal(self, TooHeavy, any_quotient, sheet, divisor).weight, places)
                else:
                    drawn += 1
                    self.assertEqual(Views.of_sheet(any_quotient(sheet, divisor)), table)
        self.assertGreater(drawn, 150)

    def test_no_seen_view(self):
        self.assertEqual(any_quotient(Sheet(), Sheet()), Sheet())
        self.assertEqual(refusal(self, NoQuotient, any_quotient, Sheet.dot(), Sheet()).view, 0)
        self.assertEqual(refusal(self, NoQuotient, any_quotient, tuft(4, (FAR, 0)), Sheet()).view, 4)

    def test_one_seen_view(self):
        for view in range(6):
            heap = Spots([(1, 2, 3), (-2, 0, -1)])
            found = any_quotient(tufted(view, heap), tuft(view, (0, 0)))
            self.assertEqual(Views.of_sheet(found)[view], heap)
            self.assertEqual(sweep_of(found, tuft(view, (0, 0))), tufted(view, heap))
            self.assertEqual(any_quotient(Sheet(), tuft(view, (BIG, 0))), Sheet())

    def test_places_far_away(self):
        # The filled table has spots near (0, 0), so a seen view far away makes its box large.
        view, heap = 2, Spots([(FAR, 0, 1)])
        table = filled_table([heap if other == view else None for other in range(6)])
        left, bottom, right, top = table.box()
        error = refusal(self, TooHeavy, any_quotient, tufted(view, heap), tuft(view, (0, 0)))
        self.assertEqual(error.weight, (right - left + 1) * (top - bottom + 1))
        self.assertEqual(any_quotient(tuft(view, (FAR, BIG)), tuft(view, (FAR, BIG))), Sheet.dot())

    def test_views_in_which_the_divisor_alone_is_blank(self):
        divisor = seen_in([1, 4])
        for view in (0, 2, 3, 5):
            sheet = sweep_of(divisor, SHEETS[0]) + tuft(view, (0, 0)) + tuft(5, (1, 0))
            self.assertEqual(refusal(self, NoQuotient, any_quotient, sheet, divisor).view, view)
        # Each view in order: view 0 is blank in the divisor alone, view 1 is too heavy.
        far = tufted(1, Spots([(0, 0, 1), (FAR, 0, 1)]))
        self.assertEqual(refusal(self, NoQuotient, any_quotient, far + tuft(0, (0, 0)), divisor).view, 0)
        error = refusal(self, TooHeavy, any_quotient, far + tuft(2, (0, 0)), tuft(1, (0, 0)))
        self.assertEqual(error.weight, FAR + 1)

    def test_broken_seams_between_seen_views(self):
        for seam in range(6):
            other = (seam + 1) % 6
            divisor = tuft(seam, (0, 0)) + tuft(other, (0, 0))
            sheet = tuft(seam, (7, 3)) + tuft(other, (0, 0))
            heaps = [Spots()] * 6
            heaps[seam], heaps[other] = Spots([(7, 3, 1)]), Spots([(0, 0, 1)])
            expected = [entry for entry in Views(heaps).broken() if entry[0] == seam]
            self.assertEqual(len(expected), 2)
            error = refusal(self, BrokenSeam, any_quotient, sheet, divisor)
            self.assertEqual((error.seam, error.line, error.here, error.there), expected[0])

    def test_the_least_broken_seam_is_told(self):
        views = [0, 1, 3, 4, 5]
        divisor = joined(*[tuft(view, (0, 0)) for view in views])
        for moved, seam in ((0, 0), (1, 0), (3, 3), (4, 3), (5, 4)):
            sheet = joined(*[tuft(view, (5, 1) if view == moved else (0, 0)) for view in views])
            heaps = [Spots([(5, 1, 1)] if view == moved else [(0, 0, 1)]) for view in range(6)]
            expected = [entry for entry in Views(heaps).broken() if entry[0] == seam]
            error = refusal(self, BrokenSeam, any_quotient, sheet, divisor)
            self.assertEqual((error.seam, error.line, error.here, error.there), expected[0])

    def test_seams_beside_views_that_are_not_seen(self):
        # The views 0, 2 and 4 have no seam in common.
        divisor = joined(*[tuft(view, (0, 0)) for view in (0, 2, 4)])
        heaps = [Spots([(1, 2, 1)]), None, Spots([(0, -3, 1)]), None, Spots([(2, 1, 1)]), None]
        sheet = joined(*[tufted(view, heaps[view]) for view in (0, 2, 4)])
        found = any_quotient(sheet, divisor)
        self.assertEqual(Views.of_sheet(found), filled_table(heaps))
        self.assertEqual(sweep_of(found, divisor), sheet)

    def test_unlike_totals(self):
        for view, other in ((0, 2), (0, 3), (1, 3), (2, 4), (1, 5), (3, 5)):
            divisor = tuft(view, (0, 0)) + tuft(other, (0, 0))
            sheet = tuft(view, (0, 0)) + tuft(other, (0, 0)) * 2
            error = refusal(self, UnlikeTotals, any_quotient, sheet, divisor)
            self.assertEqual((error.view, error.other), (view, other))
            error = refusal(self, UnlikeTotals, any_quotient, sheet - tuft(view, (0, 0)), divisor)
            self.assertEqual((error.view, error.other), (view, other))
        divisor = joined(*[tuft(view, (0, 0)) for view in (1, 3, 5)])
        sheet = joined(tuft(1, (FAR, 0)), tuft(3, (0, 0)), tuft(5, (0, 0)) * -FAR)
        error = refusal(self, UnlikeTotals, any_quotient, sheet, divisor)
        self.assertEqual((error.view, error.other), (1, 5))
        # A broken seam comes first, also where the totals are unlike.
        for seam in range(6):
            low, high = tuft(seam, (0, 0)), tuft((seam + 1) % 6, (0, 0))
            error = refusal(self, BrokenSeam, any_quotient, low + high * 2, low + high)
            self.assertEqual((error.seam, error.line, error.here, error.there), (seam, 0, 1, 2))
        divisor = joined(*[tuft(view, (0, 0)) for view in (0, 2, 3)])
        sheet = joined(tuft(0, (0, 0)) * 2, tuft(2, (0, 0)), tuft(3, (4, 0)))
        error = refusal(self, BrokenSeam, any_quotient, sheet, divisor)
        self.assertEqual(error.seam, 2)


class DividedHeapsTest(unittest.TestCase):
    def test_the_views_of_a_quotient(self):
        for first in SHEETS[:4]:
            for second in SEEN:
                found = Views.of_sheet(quotient(sweep_of(first, second), second))
                for view in range(6):
                    heap = Views.of_sheet(sweep_of(first, second))[view]
                    self.assertEqual(found[view], divided(heap, Views.of_sheet(second)[view]))


if __name__ == "__main__":
    unittest.main()
