"""Points 54 and 57: forms of plain scripts."""

import unittest

from sixviews.errors import NoEraser, NotPlain, TooHeavy
from sixviews.filled import sheet_of
from sixviews.forms import Form
from sixviews.pens import Pen
from sixviews.scripts import Script
from sixviews.sheets import Sheet, sweep_of
from sixviews.tufts import tuft
from sixviews.turnings import Turning
from tests.helpers import BIG, refusal, some_rows, views_of

FAR = 10 ** 40 - 1
SHEETS = [Sheet(), Sheet.dot(), tuft(4, (1, 2)), Sheet.dot(BIG, -FAR, ink=FAR)] + [Sheet(some_rows(seed, 5)) for seed in range(4)]
A, B = Sheet(some_rows(20, 3, 2)), Sheet(some_rows(21, 4, 1))
DEEDS = [
    ("lay", A), ("sweep", B), ("turn", 8), ("times", -3), ("move", 2, -5), ("turn", 13), ("lay", Sheet.dot(1, 0)),
    ("turn", 23), ("sweep", Sheet.of((0, 0, "e"), (1, 1, "u"))), ("move", FAR, -BIG), ("times", FAR), ("lay", B),
]
SCRIPTS = [Script(DEEDS[start:start + many]) for start in range(len(DEEDS)) for many in (1, 3, 5)]
PEN = sheet_of(Pen([2, 1, 0, 0, 0, 2]))


def cells(many, along=(3, 0)):
    """A sheet with this number of dots, which lie apart."""
    return Sheet([(k * along[0], k * along[1], "d", 1) for k in range(many)])


def given(form, sheet):
    """The sheet that the form gives, by the words of point 54."""
    return sweep_of(form.gain, sheet.turned(form.turning)) + form.laid


class FormTest(unittest.TestCase):
    def test_example(self):
        script = Script([("turn", 1), ("lay", Sheet.dot(2, 0)), ("times", -1)])
        form = Form.of_script(script)
        self.assertEqual(
            [script.text(), form.turning.code, form.gain.text(), form.laid.text()],
            ["turn 1; lay 2,0,d:1; times -1", 1, "0,0,d:-1", "2,0,d:-1"],
        )

    def test_given_sheets(self):
        for code in range(24):
            form = Form(turning=Turning.coded(code), gain=A, laid=B)
            for sheet in SHEETS:
                self.assertEqual(form(sheet=sheet), given(form, sheet))

    def test_attributes(self):
        form = Form(Turning(3, mirrored=True), A, B)
        self.assertEqual((form.turning, form.gain, form.laid), (Turning(3, mirrored=True), A, B))

    def test_blank_gains(self):
        for code in range(24):
            for gain in (Sheet(), A - A):
                form = Form(Turning.coded(code), gain, B)
                self.assertEqual((form.turning, form.turning.code, form.laid), (Turning(), 0, B))
                self.assertEqual(form, Form(Turning(), Sheet(), B))
                self.assertEqual([form(sheet) for sheet in SHEETS], [B] * len(SHEETS))

    def test_equality(self):
        forms = [
            Form(Turning(), A, B), Form(Turning(1), A, B), Form(Turning(inverted=True), A, B), Form(Turning(), B, B),
            Form(Turning(), A, A), Form(Turning(), A, Sheet()), Form(Turning(), Sheet(), B), Form(Turning(), -A, B),
        ]
        for first in range(len(forms)):
            again = Form(forms[first].turning, forms[first].gain, forms[first].laid)
            self.assertTrue(forms[first] == again)
            for second in range(len(forms)):
                self.assertIs(forms[first] == forms[second], first == second)
                self.assertIs(forms[first] != forms[second], first != second)

    def test_weights(self):
        form = Form(Turning(), cells(50), B)
        self.assertEqual(form(cells(80, (0, 1))), given(form, cells(80, (0, 1))))
        self.assertEqual(refusal(self, TooHeavy, form, cells(81, (0, 1))).weight, 4050)
        # The turned sheet counts: inside out, a stroke has three cells.
        strokes = Sheet([(3 * k, 0, "e", 1) for k in range(27)])
        self.assertEqual(Form(Turning(2), cells(50), B)(strokes).many, 50 * 27 + B.many)
        form = Form(Turning(2, inverted=True), cells(50), B)
        self.assertEqual(refusal(self, TooHeavy, form, strokes).weight, 4050)
        # A blank gain makes no heavy sweep.
        self.assertEqual(Form(Turning(), Sheet(), B)(cells(2000)), B)


class OfScriptTest(unittest.TestCase):
    def test_the_same_sheets(self):
        for script in SCRIPTS:
            form = Form.of_script(script=script)
            for sheet in SHEETS:
                self.assertEqual(form(sheet), script(sheet))

    def test_no_deeds(self):
        self.assertEqual(Form.of_script(Script()), Form(Turning(), Sheet.dot(), Sheet()))

    def test_single_deeds(self):
        dot, blank = Sheet.dot(), Sheet()
        for deed, form in (
            (("lay", A), Form(Turning(), dot, A)), (("sweep", A), Form(Turning(), A, blank)),
            (("turn", 20), Form(Turning.coded(20), dot, blank)), (("times", -2), Form(Turning(), dot * -2, blank)),
            (("move", 3, -FAR), Form(Turning(), Sheet.dot(3, -FAR), blank)),
            (("times", 0), Form(Turning(), blank, blank)), (("sweep", blank), Form(Turning(), blank, blank)),
        ):
            self.assertEqual(Form.of_script(Script([deed])), form)

    def test_blank_gains_on_the_way(self):
        script = Script([("turn", 5), ("lay", A), ("times", 0), ("turn", 8), ("lay", B), ("turn", 14)])
        form = Form.of_script(script)
        self.assertEqual((form.turning.code, form.gain, form.laid), (0, Sheet(), B.turned(Turning.coded(14))))

    def test_one_form_for_each_script(self):
        # Scripts that give the same sheets have the same form.
        same = [
            ("turn 1; lay 2,0,d:1; times -1", "times -1; turn 1; lay 2,0,d:-1"),
            ("turn 3; turn 4", "turn 1"), ("move 1 0; turn 1", "turn 1; move 0 1"), ("turn 12; turn 12", "nothing"),
            ("lay 0,0,e:1; turn 12", "turn 12; lay 0,0,d:-1 0,0,e:-1 1,0,d:-1"), ("sweep 3,1,d:2", "move 3 1; times 2"),
        ]
        for first, second in same:
            self.assertEqual(Form.of_script(Script.read(first)), Form.of_script(Script.read(second)))
        unlike = ["nothing", "turn 1", "turn 12", "times -1", "lay 0,0,d:1", "sweep 0,0,e:1", "move 1 0", "times 0"]
        forms = [Form.of_script(Script.read(text)) for text in unlike]
        for first in range(len(forms)):
            for second in range(first):
                self.assertTrue(forms[first] != forms[second])
                self.assertTrue(any(forms[first](sheet) != forms[second](sheet) for sheet in SHEETS))

    def test_folds(self):
        for at in range(3):
            deeds = [("turn", 1), ("lay", cells(50)), ("sweep", cells(81))]
            deeds.insert(at, ("fold", 0))
            # Also before a sweep that would be too heavy, and the first fold is told.
            script = Script(deeds + [("fold", 3)])
            self.assertEqual(refusal(self, NotPlain, Form.of_script, script).at, at)
            self.assertEqual(script.deeds, tuple(deeds) + (("fold", 3),))
        script = Script([("lay", cells(50)), ("sweep", cells(81)), ("fold", 3)])
        self.assertEqual(refusal(self, NotPlain, Form.of_script, script).at, 2)

    def test_weights(self):
        # The gain is swept first, and then the laid sheet.
        for deeds, weight in (
            ([("lay", cells(50)), ("sweep", cells(81))], 4050),
            ([("sweep", cells(50)), ("sweep", cells(81))], 4050),
            ([("lay", cells(40)), ("sweep", cells(63, (0, 1))), ("sweep", cells(64, (300, 0)))], 63 * 64),
            ([("lay", cells(70)), ("sweep", cells(57, (0, 1))), ("sweep", cells(2, (900, 0)))], 70 * 57 * 2),
            ([("sweep", cells(4001))], 4001),
        ):
            script = Script(deeds)
            self.assertEqual(refusal(self, TooHeavy, Form.of_script, script).weight, weight)
        form = Form.of_script(Script([("lay", cells(50)), ("sweep", cells(80, (0, 1)))]))
        self.assertEqual((form.gain.many, form.laid.many), (80, 4000))


class ThenTest(unittest.TestCase):
    def test_one_form_behind_another(self):
        forms = [Form.of_script(script) for script in SCRIPTS[1::5]]
        for first in forms:
            for second in forms:
                both = first.then(other=second)
                for sheet in SHEETS[::2]:
                    self.assertEqual(given(both, sheet), given(second, given(first, sheet)))

    def test_scripts_behind_scripts(self):
        for first in SCRIPTS[::7]:
            for second in SCRIPTS[2::5]:
                both = Form.of_script(first).then(Form.of_script(second))
                self.assertEqual(both, Form.of_script(first + second))

    def test_blank_gains(self):
        blank = Form(Turning(), Sheet(), A)
        form = Form(Turning(2, inverted=True), B, A)
        self.assertEqual(form.then(blank), blank)
        self.assertEqual(blank.then(form), Form(Turning(), Sheet(), form(A)))
        # Two gains that are not blank may sweep to a blank one.
        first, second = Form(Turning(1), tuft(0, (0, 0)), Sheet()), Form(Turning(), tuft(3, (0, 0)), A)
        self.assertEqual(first.then(second), blank)
        self.assertEqual(first.then(second).turning.code, 0)

    def test_weights(self):
        still = Form(Turning(), Sheet.dot(), Sheet())
        # First that of the gains, then that of the other gain with the laid sheet.
        for gain, laid, weight in ((cells(81), cells(90), 4050), (cells(80), cells(90), 4500), (cells(90), B, 4500)):
            form, other = Form(Turning(), gain, laid), Form(Turning(), cells(50, (0, 1)), cells(3000))
            self.assertEqual(refusal(self, TooHeavy, form.then, other).weight, weight)
        form = Form(Turning(), cells(80), cells(80))
        self.assertEqual(form.then(Form(Turning(), cells(50, (0, 1)), B)).gain.many, 4000)
        self.assertEqual(form.then(still), form)
        # The gain is turned first.
        strokes = Sheet([(3 * k, 0, "e", 1) for k in range(27)])
        other = Form(Turning(inverted=True), cells(50), B)
        self.assertEqual(refusal(self, TooHeavy, Form(Turning(), strokes, B).then, other).weight, 4050)
        self.assertEqual(refusal(self, TooHeavy, Form(Turning(), A, strokes).then, other).weight, 4050)


class BackTest(unittest.TestCase):
    def test_the_way_back(self):
        for code in range(0, 24, 3):
            for gain in (Sheet.dot(), -Sheet.dot(3, -FAR), PEN, sheet_of(Pen.even(-1)) * -1, PEN.moved(BIG, 1)):
                form = Form(Turning.coded(code), gain, A)
                back = form.back()
                self.assertEqual(form.then(back), Form(Turning(), Sheet.dot(), Sheet()))
                self.assertEqual(back.then(form), Form(Turning(), Sheet.dot(), Sheet()))
                for sheet in SHEETS[::3]:
                    self.assertEqual(back(form(sheet)), sheet)
                    self.assertEqual(form(back(sheet)), sheet)

    def test_of_scripts(self):
        script = Script([("turn", 8), ("lay", A), ("sweep", PEN), ("times", -1), ("move", 2, -BIG), ("turn", 13), ("lay", B)])
        form = Form.of_script(script)
        for sheet in SHEETS:
            self.assertEqual(form.back()(script(sheet)), sheet)

    def test_refusals(self):
        # The least view that shows that the gain has no eraser, before a sweep that is too heavy.
        heavy = cells(1400)
        seen = set()
        for gain in (
            Sheet(), Sheet.dot(ink=2), Sheet.of((0, 0, "d"), (0, 0, "e")), tuft(0, (0, 0)), PEN + tuft(5, (0, 0)), PEN * FAR,
            Sheet.dot() + tuft(3, (5, 5)), Sheet.dot(FAR, 3) - tuft(1, (5, 5)), Sheet.of((0, 0, "u"), (0, 0, "e")),
        ):
            form = Form(Turning(3), gain, heavy)
            units = [list(heap.values()) in ([1], [-1]) for heap in views_of(gain)]
            self.assertEqual(refusal(self, NoEraser, form.back).view, units.index(False))
            self.assertEqual((form.gain, form.laid), (gain, heavy))
            seen.add(units.index(False))
        self.assertEqual(seen, {0, 1, 3, 5})

    def test_weights(self):
        # The eraser of the sheet of a stroke with its ends is the stroke alone.
        pen = Sheet.of((0, 0, "d"), (0, 0, "e"), (1, 0, "d"))
        self.assertEqual(Form(Turning(), pen, cells(4000)).back().gain.many, 1)
        self.assertEqual(refusal(self, TooHeavy, Form(Turning(), pen, cells(4001)).back).weight, 4001)
        inside = sheet_of(Pen.even(-1))
        self.assertEqual(refusal(self, TooHeavy, Form(Turning(), inside, cells(161)).back).weight, 25 * 161)


if __name__ == "__main__":
    unittest.main()
