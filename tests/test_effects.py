"""Point 61: effects of slots."""

import unittest

from sixviews.blends import Blend
from sixviews.drawings import Drawing
from sixviews.effects import effect_of, told_back, unseen
from sixviews.errors import (
    BlankView, BrokenSeam, NoQuotient, NotLinear, NotSingle, NotSlot, TooHeavy, UnknownName,
)
from sixviews.filled import sheet_of
from sixviews.pens import Pen
from sixviews.quotients import quotient
from sixviews.scripts import Script
from sixviews.sheets import Sheet, joined, sweep_of
from sixviews.spots import Spots
from sixviews.tufts import tuft, tufted
from sixviews.turnings import Turning
from sixviews.views import Views
from tests.drawing_helpers import all_sheets, small, some_drawing, state_of
from tests.helpers import BIG, refusal, some_rows, some_spots
from tests.test_blends import blend_of, given
from tests.test_forms import cells

FAR = 10 ** 40 - 1
A, B = Sheet(some_rows(20, 3, 2)), Sheet(some_rows(21, 4, 1))
SHEETS = [Sheet(), Sheet.dot(), tuft(4, (1, 2)), Sheet.dot(BIG, -FAR, ink=FAR), Sheet(some_rows(5, 3))]
UP = (0, 1)


def drawn(slots, layers):
    """A drawing with these slots and layers."""
    drawing = Drawing()
    for name, sheet in slots:
        drawing.slot(name, sheet)
    for name, deed in layers:
        drawing.layer(name, deed)
    return drawing


def on_the_way(drawing, name):
    """The names on the way to a name, itself included, by the words of point 61."""
    found = {name}
    if name in drawing.layers:
        deed = drawing.deed(name)
        for used in deed[1:3] if deed[0] in ("sum", "sweep") else deed[1:2]:
            found |= on_the_way(drawing, used)
    return found


def bent_layers(drawing, slot, name):
    """The layers on the way to the name that are bent for the slot, in the order of the names."""
    bent = []
    for layer in drawing.layers:
        deed = drawing.deed(layer)
        if layer in on_the_way(drawing, name) and deed[0] == "sweep":
            if all(slot in on_the_way(drawing, used) for used in deed[1:]):
                bent.append(layer)
    return bent


class EffectTest(unittest.TestCase):
    def check(self, drawing, slot, name, sheets=SHEETS):
        """The effect gives the sheet of the name for other sheets of the slot."""
        before = state_of(drawing)
        effect = effect_of(drawing=drawing, slot=slot, name=name)
        self.assertIs(type(effect), Blend)
        for sheet in sheets:
            self.assertEqual(given(effect, sheet), all_sheets(drawing, {slot: sheet})[name])
        self.assertEqual(state_of(drawing), before)
        return effect

    def test_all_deeds(self):
        script = Script.read("fold 16; lay 0,0,d:1; sweep 0,0,e:1 1,1,v:2; turn 8; times -3; move 2 -5")
        drawing = drawn([("a", A), ("b", B)], [
            ("c", ("sum", "a", "b")), ("d", ("sweep", "c", "b")), ("e", ("turn", "d", 20)), ("f", ("times", "a", -3)),
            ("g", ("move", "f", FAR, -BIG)), ("h", ("script", "b", script)), ("i", ("sum", "g", "e")),
            ("j", ("sweep", "h", "f")), ("k", ("script", "c", script)), ("l", ("sum", "c", "c")),
        ])
        for name in "acdefghijkl":
            self.check(drawing, "a", name)
        for name in "abcfghjkl":
            self.check(drawing, "b", name)

    def test_other_drawings(self):
        found = 0
        for seed in range(10):
            drawing = some_drawing(seed, 12 if seed < 4 else 8)
            for slot in drawing.slots:
                for name in drawing:
                    bent = bent_layers(drawing, slot, name)
                    if bent:
                        self.assertEqual(refusal(self, NotLinear, effect_of, drawing, slot, name).name, bent[0])
                        found += 1
                    else:
                        self.check(drawing, slot, name, SHEETS[1:3])
        self.assertTrue(found)

    def test_the_slot_itself(self):
        drawing = drawn([("a", A), ("b", B)], [("c", ("sweep", "a", "a"))])
        still = Blend.of_script(Script())
        self.assertEqual([effect_of(drawing, "a", "a"), effect_of(drawing, "b", "b")], [still, still])

    def test_names_that_do_not_depend_on_the_slot(self):
        drawing = drawn([("a", A), ("b", B)], [
            ("c", ("turn", "b", 3)), ("d", ("sweep", "b", "c")), ("e", ("sum", "a", "a")),
        ])
        for name in "bcd":
            effect = effect_of(drawing, "a", name)
            self.assertEqual(effect, blend_of({}, drawing[name]))
            self.assertEqual((effect.many, effect.laid), (0, drawing[name]))
        self.assertEqual(effect_of(drawing, "b", "e"), blend_of({}, A * 2))

    def test_single_layers(self):
        drawing = drawn([("a", A), ("b", B)], [])
        dot = Sheet.dot()
        for at, (deed, effect) in enumerate((
            (("sum", "a", "b"), blend_of({0: dot}, B)), (("sum", "b", "a"), blend_of({0: dot}, B)),
            (("sum", "a", "a"), blend_of({0: dot * 2}, Sheet())), (("sweep", "a", "b"), blend_of({0: B}, Sheet())),
            (("sweep", "b", "a"), blend_of({0: B}, Sheet())), (("turn", "a", 17), blend_of({17: dot}, Sheet())),
            (("times", "a", 0), blend_of({}, Sheet())), (("move", "a", 2, 3), blend_of({0: Sheet.dot(2, 3)}, Sheet())),
            (("script", "a", Script([("fold", 2), ("lay", B)])), blend_of({0: dot, 2: dot}, B)),
        )):
            drawing.layer("abcdefghi"[at] * 2, deed)
            self.assertEqual(effect_of(drawing, "a", "abcdefghi"[at] * 2), effect)

    def test_present_sheets_of_the_other_slots(self):
        drawing = drawn([("a", A), ("b", B)], [("c", ("sweep", "a", "b")), ("d", ("sum", "c", "b"))])
        drawing["b"] = tuft(2, (0, 0))
        self.assertEqual(effect_of(drawing, "a", "d"), blend_of({0: tuft(2, (0, 0))}, tuft(2, (0, 0))))
        # The sheet of the slot itself makes no difference.
        drawing["a"] = Sheet()
        self.assertEqual(effect_of(drawing, "a", "d"), blend_of({0: tuft(2, (0, 0))}, tuft(2, (0, 0))))

    def test_bent_layers(self):
        drawing = drawn([("a", A), ("b", B)], [
            ("z", ("times", "a", 0)), ("y", ("sweep", "z", "a")), ("x", ("sweep", "a", "a")), ("w", ("sum", "b", "y")),
            ("v", ("sum", "w", "x")), ("u", ("times", "v", 0)), ("t", ("sweep", "z", "b")), ("s", ("sweep", "t", "x")),
        ])
        for name, layer in (("y", "y"), ("x", "x"), ("w", "y"), ("v", "y"), ("u", "y"), ("s", "x")):
            # Only the deeds count: the layer z is always blank.
            self.assertEqual(refusal(self, NotLinear, effect_of, drawing, "a", name).name, layer)
            for sheet in (A, cells(4001)):
                self.assertEqual(refusal(self, NotLinear, unseen, drawing, "a", name, sheet).name, layer)
                self.assertEqual(refusal(self, NotLinear, told_back, drawing, "a", name, sheet).name, layer)
        for slot, name in (("a", "a"), ("a", "z"), ("a", "t"), ("a", "b"), ("b", "w"), ("b", "u"), ("b", "s"), ("b", "x")):
            self.check(drawing, slot, name)

    def test_names_that_there_are_not(self):
        drawing = drawn([("a", A), ("b", B)], [("c", ("sweep", "a", "a"))])
        before = state_of(drawing)
        for call, rest in ((effect_of, ()), (unseen, (A,)), (told_back, (A,))):
            for slot, name, error, told in (
                ("x", "y", UnknownName, "x"), ("x", "a", UnknownName, "x"), ("c", "y", NotSlot, "c"),
                ("c", "c", NotSlot, "c"), ("a", "y", UnknownName, "y"), ("b", "", UnknownName, ""),
            ):
                self.assertEqual(refusal(self, error, call, drawing, slot, name, *rest).name, told)
        self.assertEqual(state_of(drawing), before)

    def test_large_numbers(self):
        drawing = drawn([("a", A), ("b", Sheet.dot(-FAR, BIG, ink=FAR))], [
            ("c", ("move", "a", FAR, FAR)), ("d", ("times", "c", -BIG)), ("e", ("sweep", "b", "d")), ("f", ("sum", "e", "b")),
        ])
        effect = self.check(drawing, "a", "f")
        self.assertEqual(effect[0], Sheet.dot(0, FAR + BIG, ink=-BIG * FAR))


class WeightsTest(unittest.TestCase):
    def test_sweeps(self):
        # The gain comes first, then the laid sheet; the layers themselves have few cells.
        for many, more, weight in ((81, 5, 4050), (80, 5, 4250), (80, 1, 4050), (79, 1, None)):
            gain = cells(many, UP)
            laid = cells(more, (5, 5)).moved(9, 9) - gain
            for deed in (("sweep", "s", "c"), ("sweep", "c", "s")):
                drawing = drawn([("a", Sheet.dot()), ("g", gain), ("l", laid), ("c", cells(50))], [
                    ("b", ("sweep", "a", "g")), ("s", ("sum", "b", "l")), ("d", deed),
                ])
                if weight is None:
                    self.assertEqual(effect_of(drawing, "a", "d").laid, sweep_of(laid, cells(50)))
                else:
                    self.assertEqual(refusal(self, TooHeavy, effect_of, drawing, "a", "d").weight, weight)

    def test_the_gain_at_a_sweep(self):
        drawing = drawn([("a", Sheet()), ("g", cells(81, UP)), ("c", cells(50))], [
            ("b", ("sweep", "g", "a")), ("d", ("sweep", "b", "c")), ("e", ("turn", "b", 3)),
        ])
        before = state_of(drawing)
        self.assertEqual(refusal(self, TooHeavy, effect_of, drawing, "a", "d").weight, 4050)
        self.assertEqual(refusal(self, TooHeavy, unseen, drawing, "a", "d", A).weight, 4050)
        self.assertEqual(refusal(self, TooHeavy, told_back, drawing, "a", "d", A).weight, 4050)
        self.assertEqual(state_of(drawing), before)
        # A layer that is not on the way makes no sweep.
        self.assertEqual(effect_of(drawing, "a", "e").many, 1)
        drawing["g"] = cells(80, UP)
        self.assertEqual(effect_of(drawing, "a", "d")[0].many, 4000)

    def test_gains_in_the_order_of_the_codes(self):
        strokes = Sheet([(3 * k, 0, "e", 1) for k in range(27)])
        drawing = drawn([("a", Sheet()), ("s", strokes), ("c", cells(50))], [
            ("b", ("sweep", "a", "s")), ("f", ("script", "b", Script([("fold", 12)]))), ("d", ("sweep", "c", "f")),
        ])
        # Inside out, each of the 27 strokes has three cells.
        self.assertEqual(refusal(self, TooHeavy, effect_of, drawing, "a", "d").weight, 81 * 50)
        drawing["c"] = cells(149)
        self.assertEqual(refusal(self, TooHeavy, effect_of, drawing, "a", "d").weight, 27 * 149)

    def test_scripts(self):
        # First the blend of the script, and then it behind the effect.
        first = Script([("sweep", cells(64)), ("sweep", cells(63, UP))])
        drawing = drawn([("a", Sheet()), ("g", cells(80, UP))], [("b", ("sweep", "a", "g")), ("c", ("script", "b", first))])
        self.assertEqual(refusal(self, TooHeavy, effect_of, drawing, "a", "c").weight, 4032)
        second = Script([("sweep", cells(51)), ("fold", 1)])
        drawing = drawn([("a", Sheet()), ("g", cells(80, UP))], [("b", ("sweep", "a", "g")), ("c", ("script", "b", second))])
        self.assertEqual(refusal(self, TooHeavy, effect_of, drawing, "a", "c").weight, 4080)
        # The laid sheet of the effect is swept behind its gains.
        third = Script([("sweep", cells(40)), ("fold", 0), ("sweep", Sheet.dot())])
        drawing = drawn([("a", Sheet()), ("l", cells(100, UP))], [("b", ("sum", "a", "l")), ("c", ("script", "b", third))])
        self.assertEqual(effect_of(drawing, "a", "c").laid.many, 4000)
        # A script on a slot on which nothing depends makes no sweep in an effect.
        drawing = drawn([("a", A), ("b", Sheet())], [("c", ("script", "b", first)), ("d", ("sum", "a", "c"))])
        self.assertEqual(effect_of(drawing, "a", "d"), blend_of({0: Sheet.dot()}, Sheet()))
        self.assertEqual(refusal(self, TooHeavy, effect_of, drawing, "b", "d").weight, 4032)

    def test_order_of_the_names(self):
        # The first layer on the way tells the weight.
        drawing = drawn([("a", Sheet()), ("g", cells(80, UP)), ("x", cells(52)), ("y", cells(51))], [
            ("b", ("sweep", "a", "g")), ("c", ("sweep", "b", "x")), ("d", ("sweep", "y", "b")), ("e", ("sum", "d", "c")),
        ])
        self.assertEqual(refusal(self, TooHeavy, effect_of, drawing, "a", "e").weight, 80 * 52)
        self.assertEqual(refusal(self, TooHeavy, effect_of, drawing, "a", "d").weight, 80 * 51)
        # A layer that is bent comes before a sweep that is too heavy.
        drawing.layer("f", ("sweep", "e", "a"))
        self.assertEqual(refusal(self, NotLinear, effect_of, drawing, "a", "f").name, "f")


class UnseenTest(unittest.TestCase):
    def test_unseen_sheets(self):
        pairs = [tuft(0, (0, 0)), tuft(3, (1, 1)), Sheet(), Sheet.dot(), A, tuft(0, (5, 5)) + tuft(4, (0, 0)), tuft(1, (0, 0))]
        for other in (tuft(0, (2, 2)), joined(tuft(1, (0, 0)), tuft(2, (0, 0))), B, Sheet()):
            for code in (0, 1, 14):
                drawing = drawn([("a", A), ("b", other), ("l", B)], [
                    ("c", ("turn", "a", code)), ("d", ("sweep", "c", "b")), ("e", ("sum", "d", "l")),
                ])
                for sheet in pairs:
                    before = drawing["e"]
                    after = all_sheets(drawing, {"a": drawing["a"] + sheet})["e"]
                    self.assertIs(unseen(drawing=drawing, slot="a", name="e", sheet=sheet), before == after)
                    self.assertIs(unseen(drawing, "a", "c", sheet), not sheet)
                    self.assertIs(unseen(drawing, "a", "l", sheet), True)

    def test_folds(self):
        drawing = drawn([("a", A)], [("b", ("script", "a", Script([("fold", 3), ("times", 2), ("lay", B)])))])
        odd = A - A.turned(Turning(3))
        self.assertIs(unseen(drawing, "a", "b", odd), True)
        self.assertIs(unseen(drawing, "a", "b", A), False)
        self.assertEqual(all_sheets(drawing, {"a": A + odd})["b"], drawing["b"])

    def test_weights(self):
        drawing = drawn([("a", A), ("b", cells(50))], [("c", ("sweep", "a", "b"))])
        self.assertEqual(refusal(self, TooHeavy, unseen, drawing, "a", "c", cells(81)).weight, 4050)
        self.assertIs(unseen(drawing, "a", "c", cells(80)), False)
        # A change that would be refused does not matter.
        drawing = drawn([("a", A), ("b", cells(50))], [("c", ("sweep", "a", "a"))])
        self.assertIs(unseen(drawing, "a", "a", cells(80)), False)
        self.assertIs(unseen(drawing, "a", "b", cells(80)), True)

    def test_spread_sheets(self):
        drawing = some_drawing(3)
        before = state_of(drawing)
        for slot in drawing.slots:
            for name in drawing:
                if not bent_layers(drawing, slot, name):
                    for sheet in (small(1), tuft(2, (0, 0))):
                        same = all_sheets(drawing, {slot: drawing[slot] + sheet})[name] == drawing[name]
                        self.assertIs(unseen(drawing, slot, name, sheet), same)
        self.assertEqual(state_of(drawing), before)


class ToldBackTest(unittest.TestCase):
    def test_sheets_that_are_told_back(self):
        pen = sheet_of(Pen([2, 1, 0, 0, 0, 2]))
        for code in range(24):
            drawing = drawn([("a", A), ("b", pen), ("l", B)], [
                ("c", ("turn", "a", code)), ("d", ("sweep", "c", "b")), ("e", ("move", "d", FAR, -BIG)),
                ("f", ("times", "e", -3)), ("g", ("sum", "f", "l")),
            ])
            before = state_of(drawing)
            for sheet in (Sheet(), A, small(code), tuft(code % 6, (1, 0))):
                target = all_sheets(drawing, {"a": sheet})["g"]
                self.assertEqual(told_back(drawing=drawing, slot="a", name="g", sheet=target), sheet)
            self.assertEqual(told_back(drawing, "a", "g", drawing["g"]), A)
            self.assertEqual(state_of(drawing), before)

    def test_the_slot_itself(self):
        drawing = drawn([("a", A), ("b", cells(4001))], [("c", ("sweep", "a", "a"))])
        # Also a sheet for which a change would be refused.
        for sheet in (B, Sheet(), cells(100)):
            self.assertEqual(told_back(drawing, "a", "a", sheet), sheet)
        self.assertEqual(refusal(self, TooHeavy, drawing.change, "a", cells(100)).weight, 10000)

    def test_numbers_of_gains(self):
        drawing = drawn([("a", A), ("b", B)], [
            ("c", ("script", "a", Script([("fold", 1)]))), ("d", ("script", "c", Script([("fold", 2), ("fold", 12)]))),
            ("e", ("times", "a", 0)), ("f", ("script", "a", Script([("fold", 0)]))),
        ])
        for name, count in (("c", 2), ("d", 8), ("e", 0), ("b", 0)):
            for sheet in (A, cells(500)):
                self.assertEqual(refusal(self, NotSingle, told_back, drawing, "a", name, sheet).count, count)
        self.assertEqual(told_back(drawing, "a", "f", B * 2), B)

    def test_errors_of_the_quotient(self):
        tufts = joined(*[tuft(view, (0, 0)) for view in range(6)])
        heaps = [Spots(some_spots(view, 3, 2)) for view in range(6)]
        odd = joined(*[tufted(view, heaps[view]) for view in range(6)])
        seam = dict(zip(("seam", "line", "here", "there"), Views(heaps).broken()[0]))
        for gain, sheet, error, told in (
            (tuft(0, (0, 0)), A, BlankView, {"view": 1}), (Sheet.dot(ink=3), Sheet.dot(), NoQuotient, {"view": 0}),
            (Sheet.dot(ink=3), tuft(4, (0, 0)), NoQuotient, {"view": 4}), (tufts, odd, BrokenSeam, seam),
            (Sheet.dot(), Sheet.dot() + Sheet.dot(400, 0), TooHeavy, {"weight": 401}),
        ):
            drawing = drawn([("a", Sheet()), ("b", gain), ("l", B)], [("c", ("sweep", "a", "b")), ("d", ("sum", "c", "l"))])
            before = state_of(drawing)
            self.assertEqual(vars(refusal(self, error, told_back, drawing, "a", "d", sheet + B)), told)
            self.assertEqual(vars(refusal(self, error, quotient, sheet, gain)), told)
            self.assertEqual(state_of(drawing), before)

    def test_the_name_then_has_the_sheet(self):
        drawing = drawn([("a", A), ("b", B)], [("c", ("sweep", "a", "b")), ("d", ("turn", "c", 19)), ("e", ("sum", "d", "b"))])
        target = sweep_of(small(7), B).turned(Turning.coded(19)) + B
        drawing["a"] = told_back(drawing, "a", "e", target)
        self.assertEqual(drawing["e"], target)


if __name__ == "__main__":
    unittest.main()
