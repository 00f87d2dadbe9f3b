"""Point 64: papers."""

import unittest
from unittest import mock

from sixviews.dividing import divided
from sixviews.errors import TooHeavy, Undivided
from sixviews.filled import sheet_of
from sixviews.judging import test_sheets
from sixviews.papers import (
    AlikePaper, BlankPaper, ErasePaper, KillPaper, Paper, PartingPaper, QuotientPaper, RestPaper, SeamPaper,
    StubbornPaper, SweepPaper, ViewPaper,
)
from sixviews.pens import Pen
from sixviews.scripts import Script
from sixviews.sheets import Sheet, joined, sweep_of
from sixviews.spots import Spots
from sixviews.tufts import tuft, tufted
from sixviews.turnings import Turning
from sixviews.views import Views
from tests.helpers import BIG, LINES, refusal, some_rows, some_spots, views_of
from tests.test_forms import cells

FAR = 10 ** 40 - 1
UP = (0, 1)
SHEETS = [Sheet(), Sheet.dot(), tuft(3, (1, -2))] + [Sheet(some_rows(seed, 5, 2)) for seed in range(5)]
A, B = Sheet(some_rows(20, 3, 2)), Sheet(some_rows(21, 4, 1))
PENS = [sheet_of(Pen([2, 1, 0, 0, 0, 2])), sheet_of(Pen.even(-1)), sheet_of(Pen.even(1))]
NO_VIEWS = (-1, 6, -6, 12, FAR, -FAR)
HEAVY = Spots([(3 * k, 0, 1) for k in range(4001)])


def heap_of(sheet, view):
    """View `view` of the sheet, a heap, by the helpers of the tests."""
    return Spots([(x, y, ink) for (x, y), ink in views_of(sheet)[view].items()])


class BasesTest(unittest.TestCase):
    def test_base_classes(self):
        for paper, bases in (
            (Paper, (object,)), (SweepPaper, (Paper,)), (ErasePaper, (SweepPaper,)), (QuotientPaper, (SweepPaper,)),
            (ViewPaper, (Paper,)), (StubbornPaper, (ViewPaper,)), (BlankPaper, (ViewPaper,)),
            (KillPaper, (SweepPaper, BlankPaper)), (RestPaper, (ViewPaper,)), (SeamPaper, (Paper,)),
            (AlikePaper, (Paper,)), (PartingPaper, (Paper,)),
        ):
            self.assertEqual(paper.__bases__, bases)
            self.assertIn("holds", vars(paper))

    def test_attributes(self):
        script, other = Script([("turn", 1)]), Script()
        heap, rest = Spots([(0, 0, 1)]), Spots([(1, 0, 1)])
        for paper, told in (
            (SweepPaper(first=A, second=B, result=A), {"first": A, "second": B, "result": A}),
            (ErasePaper(first=A, second=B), {"first": A, "second": B, "result": Sheet.dot()}),
            (QuotientPaper(sheet=A, divisor=B, quotient=A * 2), {"first": B, "second": A * 2, "result": A}),
            (ViewPaper(sheet=A, view=9), {"sheet": A, "view": 9}),
            (StubbornPaper(sheet=A, view=2), {"sheet": A, "view": 2}),
            (BlankPaper(sheet=A, view=-1), {"sheet": A, "view": -1}),
            (
                KillPaper(sheet=A, killer=B, view=3),
                {"first": A, "second": B, "result": Sheet(), "sheet": A, "view": 3},
            ),
            (
                RestPaper(sheet=A, divisor=B, view=4, quotient=heap, rest=rest),
                {"sheet": A, "divisor": B, "view": 4, "quotient": heap, "rest": rest},
            ),
            (
                SeamPaper(sheet=A, divisor=B, seam=7, low_heap=heap, high_heap=rest, line=-FAR),
                {"sheet": A, "divisor": B, "seam": 7, "low_heap": heap, "high_heap": rest, "line": -FAR},
            ),
            (AlikePaper(first=script, second=other), {"first": script, "second": other}),
            (PartingPaper(first=script, second=other, sheet=A), {"first": script, "second": other, "sheet": A}),
        ):
            for name, value in told.items():
                self.assertEqual(getattr(paper, name), value)

    def test_nothing(self):
        self.assertIs(Paper().holds(), True)


class SweepPapersTest(unittest.TestCase):
    def test_sweeps(self):
        for first in SHEETS:
            for second in SHEETS[::2]:
                swept = sweep_of(first, second)
                self.assertIs(SweepPaper(first, second, swept).holds(), True)
                for wrong in (swept + Sheet.dot(5, 5), swept * 2 + Sheet.dot(), -swept + Sheet.of((0, 0, "e"))):
                    self.assertIs(SweepPaper(first, second, wrong).holds(), False)

    def test_erasers(self):
        for sheet in PENS + [Sheet.dot(FAR, -BIG), -Sheet.dot()]:
            other = ~sheet.turned(Turning(3))
            self.assertIs(ErasePaper(sheet, other).holds(), True)
            self.assertIs(ErasePaper(other, sheet).holds(), True)
            self.assertIs(ErasePaper(sheet, -other).holds(), False)
            self.assertIs(ErasePaper(sheet, other.moved(1, 0)).holds(), False)
        self.assertIs(ErasePaper(Sheet(), Sheet()).holds(), False)
        self.assertIs(ErasePaper(A, B).holds(), False)

    def test_quotients(self):
        for first in SHEETS[1:]:
            for second in SHEETS[::3]:
                swept = sweep_of(first, second)
                self.assertIs(QuotientPaper(swept, first, second).holds(), True)
                self.assertIs(QuotientPaper(swept, second, first).holds(), True)
                self.assertIs(QuotientPaper(swept + Sheet.dot(9, 9), first, second).holds(), False)
        self.assertIs(QuotientPaper(A, Sheet.dot(), A).holds(), True)
        self.assertIs(QuotientPaper(Sheet.dot(), A, A).holds(), False)

    def test_weights(self):
        for paper, weight in (
            (SweepPaper(cells(50), cells(81), A), 4050), (ErasePaper(cells(4001), Sheet.dot()), 4001),
            (QuotientPaper(A, cells(64), cells(63, UP)), 4032), (QuotientPaper(A, cells(1), cells(4001, UP)), 4001),
        ):
            self.assertEqual(refusal(self, TooHeavy, paper.holds).weight, weight)
        swept = Sheet([(3 * x, y, "d", 1) for x in range(50) for y in range(80)])
        self.assertIs(SweepPaper(cells(50), cells(80, UP), swept).holds(), True)
        self.assertIs(QuotientPaper(swept, cells(80, UP), cells(50)).holds(), True)
        self.assertIs(SweepPaper(cells(4001), Sheet(), Sheet()).holds(), True)
        self.assertIs(QuotientPaper(cells(4001), Sheet.dot(), A).holds(), False)


class ViewPapersTest(unittest.TestCase):
    def test_views(self):
        for view in range(6):
            self.assertIs(ViewPaper(A, view).holds(), True)
        for view in NO_VIEWS:
            self.assertIs(ViewPaper(A, view).holds(), False)

    def test_stubborn_sheets(self):
        for sheet in SHEETS + PENS + [Sheet.dot(ink=2), Sheet.dot(ink=-1), Sheet.dot() + tuft(2, (4, 4)), A * FAR]:
            for view, heap in enumerate(views_of(sheet)):
                stubborn = list(heap.values()) not in ([1], [-1])
                self.assertIs(StubbornPaper(sheet, view).holds(), stubborn)
            for view in NO_VIEWS:
                self.assertIs(StubbornPaper(sheet, view).holds(), False)

    def test_blank_views(self):
        for sheet in SHEETS + [tuft(1, (FAR, -FAR)) * FAR + tuft(4, (0, 0)), Sheet.of((0, 0, "u"), (0, 0, "e"))]:
            for view, heap in enumerate(views_of(sheet)):
                self.assertIs(BlankPaper(sheet, view).holds(), heap == {})
            for view in NO_VIEWS:
                self.assertIs(BlankPaper(sheet, view).holds(), False)

    def test_killers(self):
        sheet = tuft(1, (0, 0)) + tuft(4, (2, 2))
        for view in range(6):
            blank = view not in (1, 4)
            self.assertIs(KillPaper(sheet, tuft(view, (3, 3)), view).holds(), blank)
            # The sheet and the killer sweep to a blank sheet, but this view of the sheet is not blank.
            self.assertIs(KillPaper(sheet, tuft(0, (0, 0)), view).holds(), blank)
            self.assertIs(KillPaper(sheet, tuft(1, (0, 0)), view).holds(), False)
            self.assertIs(KillPaper(sheet, Sheet(), view).holds(), False)
            self.assertIs(KillPaper(Sheet(), A, view).holds(), True)
        for view in NO_VIEWS:
            self.assertIs(KillPaper(sheet, tuft(0, (0, 0)), view).holds(), False)
            self.assertIs(KillPaper(sheet, cells(4001), view).holds(), False)

    def test_what_is_looked_at_first(self):
        sheet = tuft(1, (0, 0))
        heavy = cells(667)
        self.assertEqual(refusal(self, TooHeavy, KillPaper(sheet, heavy, 0).holds).weight, 4002)
        self.assertIs(KillPaper(sheet, cells(666), 0).holds(), False)
        # This view is not blank, or the killer is: the sweep is not looked at.
        self.assertIs(KillPaper(sheet, heavy, 1).holds(), False)
        self.assertIs(KillPaper(cells(2000), heavy, 3).holds(), False)
        self.assertIs(KillPaper(sheet, Sheet(), 3).holds(), False)


class RestPaperTest(unittest.TestCase):
    def undivided(self):
        """Sheets, divisors and views of which the heaps cannot be divided, with the two heaps that show it."""
        found = []
        for sheet in SHEETS[1:] + [Sheet.dot(3, BIG, ink=FAR)]:
            for divisor in SHEETS[3:] + [Sheet.dot(ink=2), tuft(3, (0, 0)) * 3]:
                for view in range(6):
                    heap, its_heap = heap_of(sheet, view), heap_of(divisor, view)
                    if not heap or not its_heap:
                        continue
                    try:
                        divided(heap, its_heap)
                    except TooHeavy:
                        continue
                    except Undivided as error:
                        found.append((sheet, divisor, view, error.quotient, error.rest))
        return found

    def test_statements_that_are_true(self):
        found = self.undivided()
        self.assertGreater(len(found), 60)
        for case in found:
            self.assertIs(RestPaper(*case).holds(), True)

    def test_statements_that_are_false(self):
        for sheet, divisor, view, quotient, rest in self.undivided()[::3]:
            more = Spots([(1, 1, 1)])
            self.assertIs(RestPaper(sheet, divisor, view, quotient, rest + more).holds(), False)
            self.assertIs(RestPaper(sheet, divisor, view, quotient + more, rest).holds(), False)
            self.assertIs(RestPaper(sheet, divisor, view, quotient, Spots()).holds(), False)
            for other in NO_VIEWS:
                self.assertIs(RestPaper(sheet, divisor, other, quotient, rest).holds(), False)

    def test_properties_one_by_one(self):
        def paper(heap, divisor, quotient, rest, view=0):
            """A paper on sheets of which this view has these spots."""
            return RestPaper(dots_seen(heap), dots_seen(divisor), view, Spots(quotient), Spots(rest))

        def dots_seen(rows):
            return Sheet([(x, y, "d", ink) for x, y, ink in rows])

        for view in range(6):
            for heap, divisor, quotient, rest, holds in (
                # The greatest ink of the rest is not a multiple of that of the divisor.
                ([(0, 0, 3)], [(0, 0, 2)], [], [(0, 0, 3)], True),
                ([(0, 0, 3)], [(0, 0, -2)], [], [(0, 0, 3)], True),
                ([(0, 0, -3)], [(0, 0, 2)], [], [(0, 0, -3)], True),
                # A place of the quotient that is not greater than c.
                ([(0, 0, 3)], [(0, 0, 2)], [(0, 0, 1)], [(0, 0, 1)], False),
                ([(0, 0, 1), (1, 0, 2)], [(0, 0, 2)], [(1, 0, 1)], [(0, 0, 1)], True),
                ([(0, 0, 4), (1, 0, 3)], [(0, 0, 2)], [(0, 0, 2)], [(1, 0, 3)], False),
                # The greatest ink of the rest is a multiple, and c lies in the quotient box.
                ([(0, 0, 2)], [(0, 0, 1)], [], [(0, 0, 2)], False),
                ([(0, 0, 2), (0, 5, 2)], [(0, 0, 1)], [(0, 5, 2)], [(0, 0, 2)], False),
                # c does not lie in the quotient box, which may have no places.
                ([(0, 0, 1)], [(0, 0, 1), (1, 0, 1)], [], [(0, 0, 1)], True),
                ([(0, 0, 1)], [(0, 0, 1), (0, 1, 1)], [], [(0, 0, 1)], True),
                ([(0, 0, 1), (1, 0, 2)], [(0, 0, 1), (1, 0, 1)], [(0, 0, 2)], [(0, 0, -1)], True),
                ([(0, 0, 1), (1, 0, 2)], [(0, 0, 1), (1, 0, 1)], [], [(0, 0, 1), (1, 0, 2)], False),
                ([(0, 0, 1), (1, 0, 2)], [(0, 0, 1), (1, 0, 1)], [(0, 0, 2), (-1, 0, -1)], [(-1, 0, 1)], True),
                # Not the heap.
                ([(0, 0, 3)], [(0, 0, 2)], [], [(0, 0, 5)], False),
                ([(0, 0, 3)], [(0, 0, 2)], [(5, 5, 1)], [(0, 0, 3)], False),
            ):
                self.assertIs(paper(heap, divisor, quotient, rest, view).holds(), holds, (heap, quotient, rest))

    def test_blank_heaps(self):
        one = Spots([(0, 0, 1)])
        sheet = tuft(2, (0, 0))
        for view in range(6):
            seen = view == 2
            rest = heap_of(sheet, 2)
            self.assertIs(RestPaper(sheet, Sheet.dot(ink=5), view, Spots(), rest).holds(), seen)
            self.assertIs(RestPaper(Sheet.dot(), sheet * 5, view, Spots(), one).holds(), seen)

    def test_what_is_looked_at_first(self):
        one, two = Spots([(0, 0, 1)]), Sheet.dot() + Sheet.dot(1, 0)
        # The product of the quotient and the view of the divisor.
        self.assertEqual(refusal(self, TooHeavy, RestPaper(A, Sheet.dot(), 0, HEAVY, one).holds).weight, 4001)
        self.assertEqual(refusal(self, TooHeavy, RestPaper(A, two, 3, HEAVY, one).holds).weight, 8002)
        for sheet, divisor, view, rest in (
            (Sheet(), two, 0, one), (tuft(1, (0, 0)), two, 0, one), (A, Sheet(), 0, one), (A, tuft(1, (0, 0)), 0, one),
            (A, two, 0, Spots()), (A, two, 6, one), (A, two, -1, one),
        ):
            self.assertIs(RestPaper(sheet, divisor, view, HEAVY, rest).holds(), False)
        # A rest of any size is no product.
        self.assertIs(RestPaper(A, two, 0, Spots(), HEAVY).holds(), False)


class SeamPaperTest(unittest.TestCase):
    def setUp(self):
        self.divisor = joined(*[tuft(view, (0, 0)) for view in range(6)])
        self.heaps = [Spots(some_spots(view, 4, 2)) for view in range(6)]
        self.sheet = joined(*[tufted(view, self.heaps[view]) for view in range(6)])

    def sum_on(self, heap, seam, line):
        return sum(ink for x, y, ink in heap if LINES[seam](x, y) == line)

    def test_all_seams(self):
        held = set()
        for seam in range(6):
            low, high = self.heaps[seam], self.heaps[(seam + 1) % 6]
            for line in range(-8, 9):
                unlike = self.sum_on(low, seam, line) != self.sum_on(high, seam, line)
                self.assertIs(SeamPaper(self.sheet, self.divisor, seam, low, high, line).holds(), unlike)
                held.add((seam, unlike))
            self.assertIs(SeamPaper(self.sheet, self.divisor, seam, high, low, 0).holds(), False)
        self.assertEqual(len(held), 12)
        for seam in NO_VIEWS:
            self.assertIs(SeamPaper(self.sheet, self.divisor, seam, self.heaps[0], self.heaps[1], 0).holds(), False)

    def test_false_parts(self):
        low, high = self.heaps[2], self.heaps[3]
        line = [line for line in range(-8, 9) if self.sum_on(low, 2, line) != self.sum_on(high, 2, line)][0]
        self.assertIs(SeamPaper(self.sheet, self.divisor, 2, low, high, line).holds(), True)
        more = Spots([(0, 0, 1)])
        for sheet, divisor, low_heap, high_heap, its_line in (
            (self.sheet, self.divisor, low + more, high, line), (self.sheet, self.divisor, low, high + more, line),
            (self.sheet, self.divisor, low, high, FAR), (self.sheet + tuft(2, (0, 0)), self.divisor, low, high, line),
            (self.sheet + tuft(3, (0, 0)), self.divisor, low, high, line),
            (self.sheet, self.divisor - tuft(2, (0, 0)), low, high, line),
            (self.sheet, self.divisor - tuft(3, (0, 0)), low, high, line),
        ):
            self.assertIs(SeamPaper(sheet, divisor, 2, low_heap, high_heap, its_line).holds(), False)
        # Other views do not matter.
        for view in (0, 1, 4, 5):
            other = self.divisor - tuft(view, (0, 0))
            self.assertIs(SeamPaper(self.sheet, other, 2, low, high, line).holds(), True)
            self.assertIs(SeamPaper(self.sheet + tuft(view, (1, 1)), other, 2, low, high, line).holds(), True)

    def test_no_seam_is_broken(self):
        for first in SHEETS[3:6]:
            swept, heaps = sweep_of(first, PENS[0]), [heap_of(first, view) for view in range(6)]
            for seam in range(6):
                for line in (-1, 0, 1):
                    paper = SeamPaper(swept, PENS[0], seam, heaps[seam], heaps[(seam + 1) % 6], line)
                    self.assertIs(paper.holds(), False)

    def test_blank_views_of_the_divisor(self):
        # Blank heaps times blank views are blank views, but a view of the divisor is blank.
        for seen in range(6):
            for seam in range(6):
                paper = SeamPaper(Sheet(), tuft(seen, (0, 0)), seam, Spots([(0, 0, 1)]), Spots(), 0)
                self.assertIs(paper.holds(), False)

    def test_what_is_looked_at_first(self):
        low, high = self.heaps[5], self.heaps[0]
        spots = views_of(self.divisor)
        for low_heap, high_heap, weight in (
            (HEAVY, high, 4001 * len(spots[5])), (low, HEAVY, 4001 * len(spots[0])), (HEAVY, HEAVY, 4001 * len(spots[5])),
        ):
            paper = SeamPaper(self.sheet, self.divisor, 5, low_heap, high_heap, 0)
            self.assertEqual(refusal(self, TooHeavy, paper.holds).weight, weight)
        for paper in (
            SeamPaper(self.sheet, self.divisor, 6, HEAVY, HEAVY, 0), SeamPaper(self.sheet, self.divisor, -1, HEAVY, HEAVY, 0),
            SeamPaper(self.sheet, self.divisor - tuft(5, (0, 0)), 5, HEAVY, HEAVY, 0),
            SeamPaper(self.sheet, self.divisor - tuft(0, (0, 0)), 5, HEAVY, HEAVY, 0),
            SeamPaper(self.sheet, self.divisor, 5, low + Spots([(0, 0, 1)]), HEAVY, 0),
        ):
            self.assertIs(paper.holds(), False)


class ScriptPapersTest(unittest.TestCase):
    TEXTS = [
        "nothing", "turn 1", "turn 12", "times -1", "fold 3", "lay 0,0,d:1", "move 1 0", "times 0", "sweep 0,0,e:1",
        "fold 1; fold 2", "turn 3; turn 4", "fold 0", "times 2", "sweep 1,0,d:1", "fold 12; turn 12", "fold 12",
    ]

    def test_all_pairs(self):
        scripts = [Script.read(text) for text in self.TEXTS]
        given = [[script(sheet) for sheet in test_sheets()] for script in scripts]
        alike = 0
        for first in range(len(scripts)):
            for second in range(len(scripts)):
                holds = given[first] == given[second]
                self.assertIs(AlikePaper(scripts[first], scripts[second]).holds(), holds)
                alike += holds
                for sheet in (Sheet(), A, tuft(1, (0, 0))):
                    parts = scripts[first](sheet) != scripts[second](sheet)
                    self.assertIs(PartingPaper(scripts[first], scripts[second], sheet).holds(), parts)
        self.assertEqual(alike, len(scripts) + 8)

    def test_each_test_sheet_counts(self):
        # Scripts that give the same for all test sheets but those of one view.
        for view in range(6):
            first = Script([("sweep", Sheet.dot() + tuft(view, (0, 0)))])
            self.assertIs(AlikePaper(first, Script()).holds(), False)
            self.assertIs(AlikePaper(first, first + Script()).holds(), True)
        self.assertIs(AlikePaper(Script([("lay", tuft(5, (9, 9)))]), Script()).holds(), False)

    def test_weights(self):
        wide, wider = Script([("sweep", cells(667))]), Script([("sweep", cells(668))])
        # The blank sheet is swept first, which is never too heavy.
        self.assertEqual(refusal(self, TooHeavy, AlikePaper(wide, wider).holds).weight, 4002)
        self.assertEqual(refusal(self, TooHeavy, AlikePaper(wider, wide).holds).weight, 4008)
        self.assertEqual(refusal(self, TooHeavy, AlikePaper(Script(), wider).holds).weight, 4008)
        self.assertEqual(refusal(self, TooHeavy, AlikePaper(wider, wider).holds).weight, 4008)
        # The first test sheet for which they differ decides.
        self.assertIs(AlikePaper(wide + Script([("lay", A)]), wider).holds(), False)
        self.assertIs(AlikePaper(Script([("sweep", cells(600))]), Script([("sweep", cells(601))])).holds(), False)
        for first, second, weight in (
            (Script([("sweep", cells(81))]), Script([("sweep", cells(82))]), 4050),
            (Script(), Script([("sweep", cells(80, UP)), ("sweep", cells(2, (500, 0)))]), 8000),
            (Script([("sweep", cells(4001)), ("sweep", cells(81))]), Script(), 50 * 4001),
        ):
            self.assertEqual(refusal(self, TooHeavy, PartingPaper(first, second, cells(50)).holds).weight, weight)
        self.assertIs(PartingPaper(Script(), Script([("sweep", cells(80, UP))]), cells(50)).holds(), True)


class DefinitionsAloneTest(unittest.TestCase):
    def test_nothing_that_was_found_in_another_way(self):
        # Papers hold by plain sweeps and plain views, whatever the other ways to them say.
        swept, pen = sweep_of(A, B), PENS[0]
        eraser = ~pen.turned(Turning(3))
        script = Script.read("sweep 0,0,e:1; turn 3; lay 0,0,d:1")
        papers = [
            SweepPaper(A, B, swept), ErasePaper(pen, eraser), QuotientPaper(swept, B, A), StubbornPaper(Sheet.dot(ink=2), 0),
            BlankPaper(tuft(2, (0, 0)), 3), KillPaper(tuft(2, (0, 0)), tuft(4, (1, 1)), 3),
            RestPaper(Sheet.dot(ink=3), Sheet.dot(ink=2), 1, Spots(), Spots([(0, 0, 3)])), AlikePaper(script, script),
            PartingPaper(script, Script(), A),
        ]
        with mock.patch("sixviews.sheets.sweep_of", side_effect=AssertionError), \
                mock.patch.object(Views, "of_sheet", side_effect=AssertionError):
            for paper in papers:
                self.assertIs(paper.holds(), True)

    def test_nothing_changes(self):
        sheet, killer = tuft(2, (0, 0)), tuft(4, (1, 1))
        paper = KillPaper(sheet, killer, 3)
        before = (list(sheet), list(killer))
        self.assertEqual([paper.holds(), paper.holds()], [True, True])
        self.assertEqual((list(paper.first), list(paper.second), paper.view), (*before, 3))


if __name__ == "__main__":
    unittest.main()
