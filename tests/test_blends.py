"""Point 55: blends of scripts."""

import unittest

from sixviews.blends import Blend
from sixviews.errors import BadCount, BadTurning, TooHeavy
from sixviews.forms import Form
from sixviews.scripts import Script
from sixviews.sheets import Sheet, sweep_of
from sixviews.tufts import tuft
from sixviews.turnings import Turning
from tests.helpers import BIG, refusal, some_rows
from tests.test_forms import SCRIPTS as PLAIN
from tests.test_forms import cells

FAR = 10 ** 40 - 1
SHEETS = [Sheet(), Sheet.dot(), tuft(4, (1, 2)), Sheet.dot(BIG, -FAR, ink=FAR)] + [Sheet(some_rows(seed, 4)) for seed in range(2)]
A, B = Sheet(some_rows(20, 3, 2)), Sheet(some_rows(21, 4, 1))
DEEDS = [
    ("fold", 3), ("lay", A), ("sweep", Sheet.of((0, 0, "e"))), ("fold", 13), ("turn", 8), ("times", -3), ("fold", 0),
    ("move", 2, -5), ("turn", 13), ("fold", 7), ("lay", B), ("sweep", Sheet.dot(3, -FAR, ink=2)), ("move", FAR, -BIG),
]
SCRIPTS = [Script(DEEDS[start:start + many]) for start in range(len(DEEDS)) for many in (1, 4)]
STILL = Blend([Sheet.dot()] + [Sheet()] * 23, Sheet())


def blend_of(pairs, laid):
    """The blend with these gains, a dict from codes."""
    return Blend([pairs.get(code, Sheet()) for code in range(24)], laid)


def given(blend, sheet):
    """The sheet that the blend gives, by the words of point 55."""
    total = blend.laid
    for code in range(24):
        total = total + sweep_of(blend[code], sheet.turned(Turning.coded(code)))
    return total


class BlendTest(unittest.TestCase):
    def test_given_sheets(self):
        gains = [Sheet(some_rows(code, 2, 1)) for code in range(24)]
        for blend in (Blend(gains=gains, laid=A), blend_of({5: B, 20: A}, B), blend_of({}, A), STILL):
            for sheet in SHEETS:
                self.assertEqual(blend(sheet=sheet), given(blend, sheet))

    def test_gains(self):
        gains = [Sheet.dot(code, 0) if code % 3 == 1 else Sheet() for code in range(24)]
        blend = Blend(gains, A)
        self.assertEqual([blend[code] for code in range(24)], gains)
        self.assertEqual(blend.laid, A)
        self.assertEqual(list(blend), [(code, Sheet.dot(code, 0)) for code in range(1, 24, 3)])
        self.assertTrue(all(type(pair) is tuple for pair in blend))
        self.assertEqual(blend.many, 8)
        self.assertEqual((list(blend_of({}, A)), blend_of({}, A).many), ([], 0))
        gains[1] = B
        self.assertEqual(blend[1], Sheet.dot(1, 0))

    def test_codes_that_there_are_not(self):
        for code in (-1, 24, -24, FAR, -FAR):
            self.assertEqual(refusal(self, BadTurning, lambda: STILL[code]).number, code)

    def test_other_lengths(self):
        for many in (0, 1, 23, 25, 48):
            gains = [A] * many
            self.assertEqual(refusal(self, BadCount, Blend, gains, A).count, many)
            self.assertEqual(gains, [A] * many)
        self.assertEqual(Blend((A,) * 24, B), Blend([A] * 24, B))

    def test_equality(self):
        for code in range(24):
            blend = blend_of({code: A}, B)
            self.assertTrue(blend == blend_of({code: A}, B))
            self.assertTrue(blend != blend_of({code: A}, A))
            self.assertTrue(blend != blend_of({code: B}, B))
            self.assertTrue(blend != blend_of({(code + 1) % 24: A}, B))
            self.assertTrue(blend != blend_of({}, B))
            self.assertFalse(blend == blend_of({code: A, 23 - code: A}, B))

    def test_weights(self):
        # The gains in the order of the codes, each with the turned sheet; a gain that is blank makes no sweep.
        strokes = Sheet([(3 * k, 0, "e", 1) for k in range(27)])
        blend = blend_of({3: cells(51), 15: cells(50), 16: cells(60)}, A)
        self.assertEqual(refusal(self, TooHeavy, blend, strokes).weight, 50 * 81)
        self.assertEqual(refusal(self, TooHeavy, blend, cells(80)).weight, 51 * 80)
        self.assertEqual(blend_of({3: cells(148), 15: cells(49)}, A)(strokes).many > 0, True)
        self.assertEqual(blend_of({}, A)(cells(2000)), A)
        self.assertEqual(blend_of({4: cells(50)}, Sheet())(cells(80, (0, 1))).many, 4000)
        self.assertEqual(refusal(self, TooHeavy, blend_of({4: cells(50)}, A), cells(81)).weight, 4050)

    def test_nothing_changes(self):
        gains = [Sheet(some_rows(code, 2, 1)) for code in range(24)]
        blend = Blend(gains, A)
        before = ([list(blend[code]) for code in range(24)], list(blend.laid), list(blend))
        blend(B), blend + STILL, blend.then(STILL), STILL.then(blend)
        refusal(self, TooHeavy, blend, cells(4001))
        self.assertEqual(([list(blend[code]) for code in range(24)], list(blend.laid), list(blend)), before)


class OfScriptTest(unittest.TestCase):
    def test_the_same_sheets(self):
        for script in SCRIPTS:
            blend = Blend.of_script(script=script)
            for sheet in SHEETS:
                self.assertEqual(blend(sheet), script(sheet))

    def test_all_turnings(self):
        for code in range(24):
            for script in ([("turn", code), ("fold", 23 - code)], [("fold", code), ("lay", A), ("turn", 5)]):
                blend = Blend.of_script(Script(script))
                self.assertEqual(blend(B), Script(script)(B))
                self.assertEqual(given(blend, A), Script(script)(A))

    def test_single_deeds(self):
        dot, blank = Sheet.dot(), Sheet()
        self.assertEqual(Blend.of_script(Script()), STILL)
        for deed, pairs, laid in (
            (("lay", A), {0: dot}, A), (("sweep", A), {0: A}, blank), (("turn", 20), {20: dot}, blank),
            (("times", -2), {0: dot * -2}, blank), (("times", 0), {}, blank), (("sweep", blank), {}, blank),
            (("move", 3, -FAR), {0: Sheet.dot(3, -FAR)}, blank), (("fold", 7), {0: dot, 7: dot}, blank),
            (("fold", 0), {0: dot * 2}, blank),
        ):
            self.assertEqual(Blend.of_script(Script([deed])), blend_of(pairs, laid))

    def test_folds_behind_folds(self):
        # All six turns.
        blend = Blend.of_script(Script([("fold", 1), ("fold", 2), ("lay", A), ("times", 2)]))
        self.assertEqual(blend, blend_of({code: Sheet.dot(ink=2) for code in range(4)}, A * 2))
        # Folds of a mirror double both copies.
        blend = Blend.of_script(Script([("fold", 6), ("fold", 6)]))
        self.assertEqual(blend, blend_of({0: Sheet.dot(ink=2), 6: Sheet.dot(ink=2)}, Sheet()))
        blend = Blend.of_script(Script([("fold", 6), ("times", -1), ("lay", A), ("fold", 12)]))
        dot = Sheet.dot(ink=-1)
        self.assertEqual(blend, blend_of({0: dot, 6: dot, 12: dot, 18: dot}, A + ~A))
        # A fold may make a gain blank: a single dot turned inside out is itself, a stroke is not.
        blend = Blend.of_script(Script([("turn", 12), ("times", -1), ("lay", A), ("times", 0), ("fold", 3)]))
        self.assertEqual(blend, blend_of({}, Sheet()))

    def test_one_blend_for_each_script(self):
        for first, second in (
            ("fold 1; lay 0,0,d:1", "lay 0,0,d:1; fold 1; lay 0,0,d:-1"), ("fold 3; turn 1", "turn 1; fold 3"),
            ("fold 0", "times 2"), ("fold 12; turn 12", "fold 12"), ("fold 3; fold 3", "fold 3; times 2"),
        ):
            self.assertEqual(Blend.of_script(Script.read(first)), Blend.of_script(Script.read(second)))
        unlike = ["fold 1", "fold 2", "fold 12", "fold 6", "times 2", "nothing", "fold 1; fold 1", "fold 1; lay 0,0,d:1"]
        blends = [Blend.of_script(Script.read(text)) for text in unlike]
        for first in range(len(blends)):
            for second in range(first):
                self.assertTrue(blends[first] != blends[second])

    def test_weights(self):
        # Only the deed "sweep" makes sweeps: of each gain, in the order of the codes, and then of the laid sheet.
        strokes = Sheet([(3 * k, 0, "e", 1) for k in range(27)])
        for deeds, weight in (
            ([("lay", cells(50)), ("fold", 1), ("sweep", cells(81))], 99 * 81),
            ([("sweep", cells(50)), ("fold", 4), ("lay", cells(90)), ("sweep", cells(81))], 4050),
            # Code 12 has the gain inside out, three times as many cells; it comes behind code 0.
            ([("sweep", strokes), ("fold", 12), ("sweep", cells(50))], 81 * 50),
            ([("sweep", strokes), ("fold", 12), ("lay", cells(2000)), ("sweep", cells(149))], 27 * 149),
            ([("lay", cells(70)), ("sweep", cells(57, (0, 1))), ("sweep", cells(2, (900, 0)))], 70 * 57 * 2),
            ([("sweep", cells(4001))], 4001),
        ):
            self.assertEqual(refusal(self, TooHeavy, Blend.of_script, Script(deeds)).weight, weight)
        blend = Blend.of_script(Script([("lay", cells(50)), ("sweep", cells(80, (0, 1))), ("fold", 1), ("lay", cells(2000))]))
        self.assertEqual(blend[0].many, 80)

    def test_large_numbers(self):
        script = Script([("move", FAR, -BIG), ("fold", 14), ("times", FAR), ("lay", Sheet.dot(-FAR, FAR, ink=BIG))])
        for sheet in SHEETS:
            self.assertEqual(Blend.of_script(script)(sheet), script(sheet))


class OfFormTest(unittest.TestCase):
    def test_forms(self):
        for code in range(24):
            form = Form(Turning.coded(code), A, B)
            self.assertEqual(Blend.of_form(form=form), blend_of({code: A}, B))
            self.assertEqual(Blend.of_form(form)(B), form(B))
        self.assertEqual(Blend.of_form(Form(Turning(4), Sheet(), B)), blend_of({}, B))

    def test_forms_of_scripts(self):
        for script in PLAIN:
            self.assertEqual(Blend.of_form(Form.of_script(script)), Blend.of_script(script))


class SumsTest(unittest.TestCase):
    def test_sums(self):
        blends = [Blend.of_script(script) for script in SCRIPTS[::4]] + [blend_of({}, A), blend_of({3: A}, B), blend_of({3: -A}, B)]
        for first in blends:
            for second in blends:
                both = first + second
                self.assertEqual([both[code] for code in range(24)], [first[code] + second[code] for code in range(24)])
                self.assertEqual(both.laid, first.laid + second.laid)
            self.assertEqual((first + STILL)(A), first(A) + A)
        self.assertEqual((blends[-1] + blends[-2]).many, 0)

    def test_one_behind_another(self):
        gains = {0: A, 1: B, 8: Sheet.dot(2, 1), 13: tuft(0, (0, 0)), 22: -A}
        for code in range(0, 24, 2):
            first, second = blend_of(gains, B), blend_of({code: B, (code * 7 + 5) % 24: A}, A)
            both = first.then(other=second)
            for sheet in (B, tuft(3, (1, 0))):
                self.assertEqual(given(both, sheet), given(second, given(first, sheet)))

    def test_scripts_behind_scripts(self):
        for first in SCRIPTS[::3]:
            for second in SCRIPTS[1::4]:
                both = Blend.of_script(first).then(Blend.of_script(second))
                self.assertEqual(both, Blend.of_script(first + second))

    def test_blank_gains(self):
        blank, blend = blend_of({}, A), blend_of({3: B, 14: A}, B)
        self.assertEqual(blend.then(blank), blank)
        self.assertEqual(blank.then(blend), blend_of({}, blend(A)))
        self.assertEqual(blend.then(STILL), blend)
        self.assertEqual(STILL.then(blend), blend)
        # The gains of the same code are added, and may take each other away.
        first = blend_of({0: Sheet.dot(), 3: Sheet.dot()}, Sheet())
        second = blend_of({0: Sheet.dot(), 3: Sheet.dot(ink=-1)}, Sheet())
        self.assertEqual(first.then(second), blend_of({}, Sheet()))

    def test_weights_of_then(self):
        strokes = Sheet([(3 * k, 0, "e", 1) for k in range(27)])
        up = (0, 1)
        for mine, laid, its, weight in (
            # Each gain of the other blend: first the gains, then the laid sheet, and then the next gain.
            ({2: cells(10), 5: cells(81)}, cells(90), {1: cells(50, up), 2: cells(60, up)}, 4050),
            ({2: cells(10), 5: cells(11)}, cells(90), {1: cells(50, up), 2: cells(600, up)}, 4500),
            ({2: cells(10), 5: cells(11)}, A, {1: cells(50, up), 2: cells(600, up)}, 6000),
            # Inside out, each of the strokes has three cells.
            ({2: strokes}, A, {1: cells(50, up), 12: cells(51, up)}, 81 * 51),
            ({2: A}, strokes, {1: cells(50, up), 12: cells(51, up)}, 81 * 51),
        ):
            first, second = blend_of(mine, laid), blend_of(its, cells(2000))
            self.assertEqual(refusal(self, TooHeavy, first.then, second).weight, weight)
            self.assertEqual((first, second), (blend_of(mine, laid), blend_of(its, cells(2000))))
        # Blank gains make no sweep, but a laid sheet is swept also if no gain of the first blend is left.
        first = blend_of({}, cells(81))
        self.assertEqual(refusal(self, TooHeavy, first.then, blend_of({7: cells(50, up)}, A)).weight, 4050)
        self.assertEqual(first.then(blend_of({7: cells(49, up)}, Sheet())).laid.many, 81 * 49)
        self.assertEqual(first.then(blend_of({}, B)), blend_of({}, B))

    def test_other_operands(self):
        for other in (1, A, None, [A] * 24):
            refusal(self, TypeError, lambda: STILL + other)


if __name__ == "__main__":
    unittest.main()
