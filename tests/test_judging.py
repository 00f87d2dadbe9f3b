"""Points 56 and 57: scripts and forms, judged for all sheets at once."""

import unittest

from sixviews.blends import Blend
from sixviews.erasers import is_erasable
from sixviews.errors import BlankView, BrokenSeam, NoQuotient, NotStill, TooHeavy
from sixviews.filled import sheet_of
from sixviews.forms import Form
from sixviews.judging import is_onto, is_settled, left_alone, one_to_one, parting, test_sheets
from sixviews.pens import Pen
from sixviews.quotients import quotient
from sixviews.scripts import Script
from sixviews.sheets import Sheet, joined, sweep_of
from sixviews.spots import Spots
from sixviews.tufts import tuft, tufted
from sixviews.turnings import Turning
from sixviews.views import Views
from tests.helpers import BIG, STEP, refusal, some_rows, some_spots, views_of
from tests.test_blends import SCRIPTS as FOLDED
from tests.test_forms import SCRIPTS as PLAIN
from tests.test_forms import cells, given

FAR = 10 ** 40 - 1
A, B = Sheet(some_rows(20, 3, 2)), Sheet(some_rows(21, 4, 1))
STILL = Form(Turning(), Sheet.dot(), Sheet())
GAINS = [
    Sheet(), Sheet.dot(), -Sheet.dot(3, 1), Sheet.dot(ink=2), A, B, tuft(2, (1, 1)), sheet_of(Pen.even(-1)),
    Sheet.of((0, 0, "e")), tuft(0, (0, 0)) + tuft(3, (1, 0)), Sheet.dot() + tuft(4, (0, 5)),
    joined(*[tuft(view, (view, 0)) for view in range(6)]), joined(*[tuft(view, (0, 0)) for view in (0, 1, 2, 4, 5)]),
]


def tuft_rows(view, place):
    """The rows of the tuft, by point 46 and the views of single cells."""
    x, y = place
    near = [(x + a, y + b, kind) for a in range(-3, 4) for b in range(-3, 4) for kind in "denuvw"]
    opposite = (view + 3) % 6
    return [(*cell, 1) for cell in near if list(view_at(cell, opposite)) == [place]]


def view_at(cell, view):
    """View `view` of the sheet of one cell."""
    return views_of([(*cell, 1)])[view]


class TestSheetsTest(unittest.TestCase):
    def test_the_25_test_sheets(self):
        # A cell hangs from its lowest corner in the opposite view.
        expected = [Sheet()]
        for view in range(6):
            dx, dy = STEP[(view + 1) % 6]
            expected += [Sheet(tuft_rows(view, (m * dx, m * dy))) for m in range(4)]
        sheets = test_sheets()
        self.assertEqual(sheets, expected)
        self.assertEqual((len(sheets), type(sheets), sheets[0].text()), (25, list, "blank"))
        self.assertEqual([sheet.many for sheet in sheets], [0] + [6] * 24)
        sheets.append(Sheet())
        sheets[0] = Sheet.dot()
        self.assertEqual(test_sheets(), expected)

    def test_blends_that_agree_on_them(self):
        # No blend but the blank one gives a blank sheet for all of them.
        for code in range(24):
            for gain in (Sheet.dot(), Sheet.of((0, 0, "e")), tuft(code % 6, (0, 0)), A):
                gains = [Sheet()] * 24
                gains[code] = gain
                blend = Blend(gains, Sheet())
                self.assertTrue(any(bool(blend(sheet)) for sheet in test_sheets()))


class PartingTest(unittest.TestCase):
    def test_example(self):
        script = Script.read("turn 1; lay 2,0,d:1; times -1")
        self.assertIs(parting(script, Script.read("times -1; turn 1; lay 2,0,d:-1")), None)

    def test_scripts_that_give_the_same(self):
        for first, second in (
            ("nothing", "turn 0"), ("fold 0", "times 2"), ("fold 12; turn 12", "fold 12"), ("turn 3; turn 4", "turn 1"),
            ("fold 3; turn 1", "turn 1; fold 3"), ("times 0; lay 0,0,e:1", "sweep blank; lay 0,0,e:1"),
            ("lay 0,0,e:1; turn 12", "turn 12; lay 0,0,d:-1 0,0,e:-1 1,0,d:-1"),
        ):
            self.assertIs(parting(first=Script.read(first), second=Script.read(second)), None)
            self.assertIs(parting(Script.read(second), Script.read(first)), None)
        for script in PLAIN[::4] + FOLDED[::3]:
            self.assertIs(parting(script, script + Script([("turn", 6), ("turn", 6)])), None)

    def test_the_first_sheet_that_parts(self):
        texts = [
            "nothing", "turn 1", "turn 2", "turn 6", "turn 12", "turn 15", "times -1", "fold 3", "lay 0,0,d:1", "move 1 0",
            "times 0", "fold 1; fold 2", "sweep 0,0,e:1", "fold 13; lay 1,1,u:2", "fold 12", "sweep 0,0,d:1 0,0,e:1 1,0,d:1",
        ]
        scripts = [Script.read(text) for text in texts]
        found = set()
        for first in scripts:
            for second in scripts:
                unlike = [sheet for sheet in test_sheets() if first(sheet) != second(sheet)]
                sheet = parting(first, second)
                self.assertEqual(sheet, unlike[0] if unlike else None)
                self.assertEqual(sheet is None, first == second)
                found.add(None if sheet is None else test_sheets().index(sheet))
        self.assertTrue({None, 0, 1} < found, found)

    def test_sheets_that_part_late(self):
        # Gains that are seen in one view alone part the tufts of one view alone.
        for view in range(6):
            for m in range(4):
                first = Script([("sweep", tuft(view, (0, 0)))])
                sheet = parting(first, Script([("times", 0)]))
                self.assertEqual(sheet, test_sheets()[1 + 4 * view])
        # A turning about a tuft's view leads the tuft at m = 0 to itself.
        for view in range(6):
            keep = [Turning.coded(code) for code in range(24) if Turning.coded(code).view_to(view) == view]
            gains = Sheet(tuft(view, (0, 0)))
            for turning in keep[1:2]:
                first = Script([("turn", turning.code), ("sweep", gains)])
                sheet = parting(first, Script([("sweep", gains)]))
                unlike = [s for s in test_sheets() if first(s) != s * gains]
                self.assertEqual(sheet, unlike[0])

    def test_weights_of_the_blends(self):
        # The blends are made first, that of the first script first.
        heavy, heavier = Script([("sweep", cells(4001))]), Script([("sweep", cells(80)), ("sweep", cells(51))])
        for first, second, weight in (
            (heavy, heavier, 4001), (heavier, heavy, 4080), (Script(), heavier, 4080), (heavy, Script(), 4001),
            (heavy, heavy, 4001),
        ):
            deeds = (first.deeds, second.deeds)
            self.assertEqual(refusal(self, TooHeavy, parting, first, second).weight, weight)
            self.assertEqual((first.deeds, second.deeds), deeds)

    def test_weights_of_the_calls(self):
        # The tufts have 6 cells, and the blends that differ are given them, the first one first.
        wide, wider = Script([("sweep", cells(667))]), Script([("sweep", cells(668))])
        self.assertEqual(refusal(self, TooHeavy, parting, wide, wider).weight, 4002)
        self.assertEqual(refusal(self, TooHeavy, parting, wider, wide).weight, 4008)
        self.assertEqual(refusal(self, TooHeavy, parting, Script(), wider).weight, 4008)
        # Equal blends are given no sheet, and the blank sheet comes first.
        self.assertIs(parting(wide, wide + Script([("turn", 0)])), None)
        self.assertEqual(parting(wide, wider + Script([("lay", A)])), Sheet())
        self.assertEqual(parting(Script([("sweep", cells(666))]), Script([("sweep", cells(665))])), test_sheets()[1])


class OneToOneTest(unittest.TestCase):
    def test_forms(self):
        for code in range(0, 24, 5):
            for gain in GAINS:
                form = Form(Turning.coded(code), gain, A)
                found = one_to_one(form=form)
                if {} not in views_of(gain):
                    self.assertIs(found, None)
                    continue
                self.assertIs(type(found), tuple)
                first, second = found
                self.assertIsInstance(first, Sheet)
                self.assertTrue(first != second)
                self.assertEqual(given(form, first), given(form, second))
                self.assertEqual(form(first), form(second))

    def test_large_forms(self):
        self.assertIs(one_to_one(Form(Turning(), cells(4001), cells(4001))), None)
        gain = tufted(1, Spots([(k, 7 * k, FAR) for k in range(300)])).moved(FAR, -BIG)
        form = Form(Turning(4, inverted=True), gain, A)
        first, second = one_to_one(form)
        self.assertTrue(first != second)
        self.assertEqual(given(form, first), given(form, second))

    def test_blank_gains(self):
        first, second = one_to_one(Form(Turning(), Sheet(), A))
        self.assertTrue(first != second)


class OntoTest(unittest.TestCase):
    def test_forms(self):
        for code in (0, 7, 21):
            for gain in GAINS:
                self.assertIs(is_onto(form=Form(Turning.coded(code), gain, A)), is_erasable(gain))
        onto = [is_onto(Form(Turning(), gain, A)) for gain in GAINS]
        self.assertEqual(onto, [at in (1, 2, 7, 8) for at in range(len(GAINS))])

    def test_each_sheet_is_given(self):
        form = Form(Turning(4, mirrored=True), sheet_of(Pen.even(-1)), A)
        for sheet in (Sheet(), B, tuft(0, (1, 1))):
            self.assertEqual(form(form.back()(sheet)), sheet)


class LeftAloneTest(unittest.TestCase):
    def test_forms(self):
        for gain in (Sheet(), Sheet.dot(ink=2), Sheet.dot() + sheet_of(Pen.even(1)), Sheet.dot() - sheet_of(Pen.even(-1)) * -1):
            for sheet in (Sheet(), A, B, Sheet.dot(BIG, -FAR, ink=FAR)):
                laid = sheet - sweep_of(gain, sheet)
                form = Form(Turning(), gain, laid)
                self.assertEqual(left_alone(form=form), sheet)
                self.assertEqual(form(sheet), sheet)

    def test_turnings(self):
        # Any turning but the one with the code 0, also where there would be no quotient.
        for code in range(1, 24):
            for gain in (Sheet.dot(), Sheet.dot(ink=3), A):
                self.assertEqual(refusal(self, NotStill, left_alone, Form(Turning.coded(code), gain, A)).number, code)
            self.assertEqual(left_alone(Form(Turning.coded(code), Sheet(), A)), A)

    def test_errors_of_the_quotient(self):
        tufts = joined(*[tuft(view, (0, 0)) for view in range(6)])
        heaps = [Spots(some_spots(view, 3, 2)) for view in range(6)]
        for form, error, told in (
            (STILL, BlankView, {"view": 0}),
            (Form(Turning(), Sheet.dot() - tuft(0, (0, 0)), A), BlankView, {"view": 1}),
            (Form(Turning(), Sheet.dot(ink=3), Sheet.dot()), NoQuotient, {"view": 0}),
            (Form(Turning(), Sheet.dot(ink=3), tuft(4, (0, 0))), NoQuotient, {"view": 4}),
            (Form(Turning(), Sheet(), Sheet.dot() + Sheet.dot(400, 0)), TooHeavy, {"weight": 401}),
            (
                Form(Turning(), Sheet.dot() - tufts, joined(*[tufted(view, heaps[view]) for view in range(6)])),
                BrokenSeam, dict(zip(("seam", "line", "here", "there"), Views(heaps).broken()[0])),
            ),
        ):
            self.assertEqual(vars(refusal(self, error, left_alone, form)), told)
            self.assertEqual(vars(refusal(self, error, quotient, form.laid, Sheet.dot() - form.gain)), told)

    def test_only_sheet(self):
        form = Form(Turning(), Sheet.dot(ink=2), A)
        for sheet in (A, B, Sheet(), left_alone(form) + tuft(0, (0, 0))):
            self.assertEqual(form(sheet) == sheet, sheet == left_alone(form))


class SettledTest(unittest.TestCase):
    def test_settled_forms(self):
        for form in (STILL, Form(Turning(), Sheet(), A), Form(Turning(), Sheet(), Sheet()), Form(Turning(5), A - A, B)):
            self.assertIs(is_settled(form=form), True)
            for sheet in (A, B):
                self.assertEqual(form(form(sheet)), form(sheet))

    def test_other_forms(self):
        for form in (
            Form(Turning(1), Sheet.dot(), Sheet()), Form(Turning(inverted=True), Sheet.dot(), Sheet()),
            Form(Turning(), -Sheet.dot(), Sheet()), Form(Turning(), Sheet.dot(), A), Form(Turning(), A, B),
            Form(Turning(), tuft(0, (0, 0)), A), Form(Turning(3), tuft(0, (0, 0)), Sheet()),
        ):
            self.assertIs(is_settled(form), False)
            self.assertTrue(any(given(form, given(form, s)) != given(form, s) for s in test_sheets() + [A]))

    def test_weights(self):
        # The gain with itself turned, and then with the laid sheet turned.
        self.assertEqual(refusal(self, TooHeavy, is_settled, Form(Turning(), cells(64), A)).weight, 4096)
        self.assertEqual(refusal(self, TooHeavy, is_settled, Form(Turning(1), cells(63), cells(64))).weight, 63 * 64)
        strokes = Sheet([(3 * k, 0, "e", 1) for k in range(37)])
        self.assertIs(is_settled(Form(Turning(), strokes, Sheet())), False)
        self.assertEqual(refusal(self, TooHeavy, is_settled, Form(Turning(inverted=True), strokes, Sheet())).weight, 37 * 111)
        self.assertIs(is_settled(Form(Turning(), Sheet(), cells(4001))), True)


if __name__ == "__main__":
    unittest.main()
