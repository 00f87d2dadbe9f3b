"""Papers that are made, and that they hold."""

import unittest

from sixviews.dividing import divided
from sixviews.erasers import eraser, is_erasable
from sixviews.errors import BlankView, BrokenSeam, NoKiller, NoQuotient, TooHeavy, Undivided
from sixviews.filled import sheet_of
from sixviews.judging import parting
from sixviews.making import erase_paper, kill_paper, quotient_paper, script_paper
from sixviews.papers import (
    AlikePaper, ErasePaper, KillPaper, PartingPaper, QuotientPaper, RestPaper, SeamPaper, StubbornPaper,
)
from sixviews.pens import Pen
from sixviews.quotients import quotient
from sixviews.scripts import Script
from sixviews.sheets import Sheet, joined, sweep_of
from sixviews.spots import Spots
from sixviews.tufts import tuft, tufted
from sixviews.views import Views
from tests.helpers import BIG, refusal, some_rows, some_spots, views_of
from tests.test_blends import SCRIPTS as FOLDED
from tests.test_forms import cells

FAR = 10 ** 40 - 1
A, B = Sheet(some_rows(20, 3, 2)), Sheet(some_rows(21, 4, 1))
SHEETS = [Sheet(), Sheet.dot(), tuft(3, (1, -2)), Sheet.dot(3, 1, ink=-2)] + [Sheet(some_rows(seed, 5, 2)) for seed in range(6)]
PENS = [sheet_of(Pen([2, 1, 0, 0, 0, 2])), sheet_of(Pen.even(-1)), sheet_of(Pen.even(1)) * -1]
TUFTS = joined(*[tuft(view, (0, 0)) for view in range(6)])


class EraseTest(unittest.TestCase):
    def test_example(self):
        paper = erase_paper(Sheet.of((0, 0, "d"), (0, 0, "e")))
        self.assertEqual([paper.view, paper.holds()], [0, True])
        self.assertIs(type(paper), StubbornPaper)

    def test_erasers(self):
        for sheet in PENS + [Sheet.dot(), Sheet.dot(FAR, -BIG, ink=-1)]:
            paper = erase_paper(sheet=sheet)
            self.assertIs(type(paper), ErasePaper)
            self.assertEqual((paper.first, paper.second, paper.result), (sheet, eraser(sheet), Sheet.dot()))
            self.assertIs(paper.holds(), True)

    def test_stubborn_sheets(self):
        for sheet in SHEETS + [Sheet.dot() + tuft(view, (5, 5)) for view in range(6)] + [PENS[0] * FAR]:
            if is_erasable(sheet):
                continue
            paper = erase_paper(sheet)
            self.assertIs(type(paper), StubbornPaper)
            units = [list(heap.values()) in ([1], [-1]) for heap in views_of(sheet)]
            self.assertEqual((paper.sheet, paper.view), (sheet, units.index(False)))
            self.assertIs(paper.holds(), True)

    def test_large_pens(self):
        # The eraser is told, though the sweep is too heavy for the paper.
        sheet = sheet_of(Pen.even(5))
        self.assertEqual(refusal(self, TooHeavy, erase_paper(sheet).holds).weight, sheet.many * eraser(sheet).many)


class KillTest(unittest.TestCase):
    def test_killers(self):
        for sheet in SHEETS + [tuft(view, (FAR, 1)) + tuft(5, (0, -BIG)) * FAR for view in range(6)]:
            blank = [view for view, heap in enumerate(views_of(sheet)) if not heap]
            if not blank:
                refusal(self, NoKiller, kill_paper, sheet)
                continue
            paper = kill_paper(sheet=sheet)
            self.assertIs(type(paper), KillPaper)
            self.assertEqual((paper.sheet, paper.first, paper.view, paper.result), (sheet, sheet, blank[0], Sheet()))
            self.assertTrue(0 < paper.second.many <= 6)
            self.assertIs(paper.holds(), True)

    def test_no_killer(self):
        before = list(A)
        refusal(self, NoKiller, kill_paper, A)
        refusal(self, NoKiller, kill_paper, Sheet.dot())
        self.assertEqual(list(A), before)

    def test_heavy_sheets(self):
        sheet = joined(*[tuft(2, (3 * k, 0)) for k in range(112)])
        paper = kill_paper(sheet)
        self.assertEqual(paper.view, 0)
        self.assertEqual(refusal(self, TooHeavy, paper.holds).weight, sheet.many * paper.second.many)


class QuotientTest(unittest.TestCase):
    def test_example(self):
        paper = quotient_paper(Sheet.dot(), Sheet.dot(1, 0, ink=2))
        self.assertEqual([paper.view, list(paper.rest), paper.holds()], [0, [(0, 0, 1)], True])

    def test_all_papers(self):
        found = set()
        for divisor in [sheet for sheet in SHEETS if {} not in views_of(sheet)] + PENS + [TUFTS]:
            for sheet in SHEETS + [sweep_of(divisor, A), sweep_of(divisor, B) + tuft(2, (0, 0))]:
                found.add(self.check(sheet, divisor))
        self.assertTrue({QuotientPaper, RestPaper} <= found, found)

    def check(self, sheet, divisor):
        """The paper is the one that `quotient` asks for, and it holds; its class is returned."""
        try:
            result = quotient(sheet, divisor)
        except NoQuotient as error:
            paper = quotient_paper(sheet=sheet, divisor=divisor)
            self.assertEqual((type(paper), paper.sheet, paper.divisor, paper.view), (RestPaper, sheet, divisor, error.view))
            with self.assertRaises(Undivided):
                divided(Views.of_sheet(sheet)[error.view], Views.of_sheet(divisor)[error.view])
        except BrokenSeam as error:
            paper = quotient_paper(sheet, divisor)
            self.assertEqual((type(paper), paper.sheet, paper.divisor), (SeamPaper, sheet, divisor))
            self.assertEqual((paper.seam, paper.line), (error.seam, error.line))
            self.assertEqual(dict(paper.low_heap.sums(paper.seam)).get(paper.line, 0), error.here)
            self.assertEqual(dict(paper.high_heap.sums(paper.seam)).get(paper.line, 0), error.there)
        except TooHeavy as error:
            self.assertEqual(refusal(self, TooHeavy, quotient_paper, sheet, divisor).weight, error.weight)
            return None
        else:
            paper = quotient_paper(sheet, divisor)
            self.assertEqual((type(paper), paper.first, paper.second, paper.result), (QuotientPaper, divisor, result, sheet))
        self.assertIs(paper.holds(), True)
        return type(paper)

    def test_broken_seams(self):
        for seed in range(6):
            heaps = [Spots(some_spots(6 * seed + view, 3, 2)) for view in range(6)]
            sheet = joined(*[tufted(view, heaps[view]) for view in range(6)])
            self.assertIs(self.check(sheet, TUFTS), SeamPaper)
            paper = quotient_paper(sheet, TUFTS)
            self.assertEqual((paper.low_heap, paper.high_heap), (heaps[paper.seam], heaps[(paper.seam + 1) % 6]))
        # Seam 5 lies between the views 5 and 0; seam 4 breaks as well, or 5 is the first one.
        for view in range(6):
            heaps = [Spots([(0, 0, 1)])] * 6
            heaps[view] = Spots([(0, 0, 1), (4, -2, FAR), (5, -2, -FAR)])
            self.assertIs(self.check(joined(*[tufted(at, heaps[at]) for at in range(6)]), TUFTS), SeamPaper)

    def test_views_that_cannot_be_divided(self):
        for view in range(6):
            sheet = Sheet.dot(ink=2) + tuft(view, (1, 1))
            self.assertIs(self.check(sheet, Sheet.dot(ink=2)), RestPaper)
            self.assertEqual(quotient_paper(sheet, Sheet.dot(ink=2)).view, view)
        self.assertIs(self.check(Sheet.dot(BIG, FAR, ink=FAR), Sheet.dot(-FAR, 3, ink=FAR - 1)), RestPaper)
        self.assertIs(self.check(Sheet.dot(), Sheet.dot() + Sheet.dot(FAR, FAR)), RestPaper)

    def test_other_errors(self):
        for divisor, view in ((Sheet(), 0), (tuft(0, (0, 0)), 1), (tuft(4, (0, 0)), 0)):
            self.assertEqual(refusal(self, BlankView, quotient_paper, A, divisor).view, view)
        self.assertEqual(refusal(self, TooHeavy, quotient_paper, Sheet.dot() + Sheet.dot(400, 0), Sheet.dot()).weight, 401)
        # A sheet with single spots in its views, which are too far apart.
        stroke = Sheet([(x, 0, "d", 1) for x in range(401)] + [(x, 0, "e", 1) for x in range(400)])
        self.assertEqual(refusal(self, TooHeavy, quotient_paper, stroke, Sheet.dot()).weight, 401)

    def test_heavy_papers(self):
        self.assertIs(quotient_paper(cells(70), Sheet.dot()).holds(), True)
        wide, tall = Sheet([(x, 0, "d", 1) for x in range(80)]), Sheet([(0, y, "d", 1) for y in range(60)])
        paper = quotient_paper(sweep_of(wide, tall), tall)
        self.assertEqual((type(paper), paper.second), (QuotientPaper, wide))
        self.assertEqual(refusal(self, TooHeavy, paper.holds).weight, 4800)


class ScriptTest(unittest.TestCase):
    def test_scripts(self):
        same = [("fold 0", "times 2"), ("turn 3; turn 4", "turn 1"), ("fold 12; turn 12", "fold 12"), ("nothing", "turn 0")]
        for first, second in same:
            first, second = Script.read(first), Script.read(second)
            paper = script_paper(first=first, second=second)
            self.assertEqual((type(paper), paper.first, paper.second), (AlikePaper, first, second))
            self.assertIs(paper.holds(), True)
        texts = ["nothing", "turn 1", "turn 12", "times -1", "fold 3", "lay 0,0,d:1", "sweep 0,0,e:1", "fold 1; fold 2"]
        scripts = [Script.read(text) for text in texts] + FOLDED[::5]
        for first in scripts:
            for second in scripts:
                paper = script_paper(first, second)
                sheet = parting(first, second)
                self.assertIs(type(paper), AlikePaper if sheet is None else PartingPaper)
                self.assertEqual((paper.first, paper.second), (first, second))
                if sheet is not None:
                    self.assertEqual(paper.sheet, sheet)
                    self.assertIs(paper.holds(), True)

    def test_weights(self):
        heavy, wide = Script([("sweep", cells(4001))]), Script([("sweep", cells(667))])
        self.assertEqual(refusal(self, TooHeavy, script_paper, heavy, Script()).weight, 4001)
        self.assertEqual(refusal(self, TooHeavy, script_paper, Script(), heavy).weight, 4001)
        self.assertEqual(refusal(self, TooHeavy, script_paper, Script(), wide).weight, 4002)
        # The blends are equal, so the paper is made; looking at it is too heavy.
        paper = script_paper(wide, wide + Script([("turn", 0)]))
        self.assertIs(type(paper), AlikePaper)
        self.assertEqual(refusal(self, TooHeavy, paper.holds).weight, 4002)


if __name__ == "__main__":
    unittest.main()
