"""Points 1 to 4 over the whole program, and ways of the document that lead to the same."""

import ast
import importlib
import inspect
import pathlib
import sys
import unittest

from sixviews.blends import Blend
from sixviews.cells import closure, corners_of, hanging, rising, star
from sixviews.corners import corner_sum, dot_spots
from sixviews.desks import Desk
from sixviews.digests import Digest
from sixviews.drawings import Drawing, tried
from sixviews.effects import effect_of, told_back, unseen
from sixviews.erasers import counter, eraser, is_erasable
from sixviews.errors import BadKind, BadView, DrawingError, TooHeavy, UnknownName
from sixviews.filled import sheet_of
from sixviews.forms import Form
from sixviews.growth import dot_growth
from sixviews.judging import left_alone, one_to_one, parting, test_sheets
from sixviews.killers import blank_views, killer, sweep_is_blank
from sixviews.making import erase_paper, quotient_paper
from sixviews.norms import norm, weights
from sixviews.papers import BlankPaper, SeamPaper
from sixviews.paths import Path
from sixviews.pens import Pen
from sixviews.plain import plain_sweep, plain_view
from sixviews.quotients import any_quotient, quotient
from sixviews.reading import drawn, ink_at, window
from sixviews.rows import Row
from sixviews.scripts import Script
from sixviews.shadows import lift, shadow, shadow_of_pen, shadows
from sixviews.sheets import Sheet, joined, swept, turned_copies
from sixviews.splits import parted, put_together
from sixviews.spots import Spots
from sixviews.strokes import far_ink, path_sheet, stroke
from sixviews.tufts import seen_alone, spots_of, tuft, tufted
from sixviews.turnings import Turning
from sixviews.views import Views
from sixviews.wholes import digest_of, shadow_of, views_of
from tests.drawing_helpers import some_drawing, state_of
from tests.helpers import BIG, STEP, refusal, some_rows
from tests.test_general import FUNCTIONS, METHODS

FAR = 10 ** 40 - 1
SHEETS = [Sheet(), Sheet.dot(), tuft(3, (1, -2)), tuft(1, (0, 0)) + tuft(5, (1, 1))]
SHEETS += [Sheet(some_rows(seed, 5, 2)) for seed in range(5)]
PEN = Pen([2, 1, 0, 0, 0, 2])
FOLDER = pathlib.Path(__file__).resolve().parent.parent / "sixviews"


def sweep_drawing(first, second):
    """A drawing with the slots a and b and the sweep of them."""
    drawing = Drawing()
    drawing.slot("a", first)
    drawing.slot("b", second)
    drawing.layer("c", ("sweep", "a", "b"))
    return drawing


class SweepsTest(unittest.TestCase):
    def test_ways_to_a_sweep(self):
        for first in SHEETS:
            for second in SHEETS:
                product = Views.of_sheet(first) * Views.of_sheet(second)
                ways = [
                    first * second, second * first, swept(first, second), plain_sweep(first, second), drawn(product),
                    Script([("sweep", second)])(first), Form(Turning(), second, Sheet())(first),
                    Blend.of_script(Script([("sweep", first)]))(second), sweep_drawing(first, second)["c"],
                    drawn(views_of(sweep_drawing(first, second), "c")),
                ]
                for way in ways[1:]:
                    self.assertEqual(way, ways[0])

    def test_commutative_associative_and_distributive(self):
        for first in SHEETS[3:6]:
            for second in SHEETS[::2]:
                for third in SHEETS[1::3]:
                    self.assertEqual((first * second) * third, first * (second * third))
                    self.assertEqual(first * (second + third), first * second + first * third)
                    self.assertEqual(plain_sweep(first, second + third), joined(first * second, first * third))

    def test_inside_out(self):
        for first in SHEETS:
            for second in SHEETS[::2]:
                self.assertEqual(~(first * second), ~first * ~second)
                drawing = sweep_drawing(first, second)
                drawing.layer("d", ("turn", "c", 12))
                self.assertEqual(drawing["d"], plain_sweep(~first, ~second))
                self.assertEqual(views_of(drawing, "d"), ~Views.of_sheet(drawing["c"]))

    def test_turned_sweeps(self):
        for first, second in ((SHEETS[4], SHEETS[5]), (SHEETS[2], SHEETS[6])):
            for code, turned in turned_copies(first * second):
                turning = Turning.coded(code)
                self.assertEqual(turned, plain_sweep(first.turned(turning), second.turned(turning)))
                self.assertEqual(Views.of_sheet(turned), Views.of_sheet(first * second).turned(turning))
                self.assertEqual(turned, Form(turning, Sheet.dot(), Sheet())(first * second))

    def test_powers(self):
        for sheet in SHEETS:
            self.assertEqual(sheet ** 2, plain_sweep(sheet, sheet))
            self.assertEqual(Digest.of_sheet(sheet ** 2), Digest.of_sheet(sheet) ** 2)
            self.assertEqual((sheet ** 2) == Sheet(), sheet == Sheet())
            self.assertEqual((-sheet) ** 2, sheet ** 2)

    def test_the_same_square(self):
        # Exactly if in each view the two heaps are equal or one is the negative of the other.
        for view in range(6):
            other = tuft(view, (0, 0)) * -3
            for rest in SHEETS[2:4]:
                first, second = rest + other, rest - other
                alike = all(mine == its or mine == -its for mine, its in zip(Views.of_sheet(first), Views.of_sheet(second)))
                self.assertIs(first ** 2 == second ** 2, alike)


class ViewsTest(unittest.TestCase):
    def test_ways_to_a_view(self):
        for seed in range(5):
            drawing = some_drawing(seed)
            for name in drawing:
                views = Views.of_sheet(drawing[name])
                self.assertEqual(views_of(drawing, name), views)
                self.assertEqual(views.broken(), [])
                self.assertEqual({heap.total for heap in views}, {drawing[name].euler})
                for view in range(6):
                    self.assertEqual(plain_view(drawing[name], view), views[view])

    def test_ways_back_from_views(self):
        for sheet in SHEETS:
            views = Views.of_sheet(sheet)
            self.assertEqual(drawn(views), sheet)
            self.assertEqual(window(views, -4, -4, wide=8, high=8), sheet)
            for cell in [row[:3] for row in sheet] + [(5, 5, "u"), (0, 0, "n")]:
                self.assertEqual(ink_at(views, cell), sheet[cell])

    def test_corner_sums(self):
        factors = [Spots([(0, 0, 1), (*STEP[j], -1)]) for j in range(3)]
        for sheet in SHEETS:
            views = Views.of_sheet(sheet)
            dots = Spots([(x, y, ink) for x, y, kind, ink in sheet if kind == "d"])
            self.assertEqual(dot_spots(views), dots)
            self.assertEqual(corner_sum(views), factors[0] * factors[1] * factors[2] * dots)
            drawing = sweep_drawing(sheet, SHEETS[4])
            self.assertEqual(corner_sum(views_of(drawing, "c")), corner_sum(Views.of_sheet(drawing["c"])))

    def test_pens_and_paths(self):
        path = Path([(0, 2), (2, 3)])
        for pen in (PEN, Pen.even(-1), Pen([0, 0, 0, 0, 0, 1])):
            sheet = stroke(pen, path)
            self.assertEqual(Views.of_sheet(sheet), Views.of_pen(pen) * Views.of_path(path))
            self.assertEqual(plain_sweep(sheet_of(pen), path_sheet(path)), sheet)
            self.assertEqual(Digest.of_sheet(sheet), Digest.of_pen(pen) * Digest.of_path(path))
            for cell in [row[:3] for row in sheet]:
                self.assertEqual(far_ink(pen, path, cell), sheet[cell])


class UndoingTest(unittest.TestCase):
    def test_norms(self):
        for sheet in SHEETS:
            drawing = Drawing()
            drawing.slot("a", sheet)
            drawing.layer("b", ("turn", "a", 15))
            drawing.layer("c", ("sweep", "a", "b"))
            self.assertEqual(drawing["b"], counter(sheet))
            self.assertEqual(drawing["c"], norm(sheet))
            middle = tuple(plain_view(norm(sheet), view)[0, 0] for view in range(6))
            self.assertEqual(weights(sheet), middle)

    def test_killers(self):
        for first in SHEETS:
            for second in SHEETS:
                blank = not plain_sweep(first, second)
                self.assertIs(sweep_is_blank(first, second), blank)
                self.assertIs(not sweep_drawing(first, second)["c"], blank)
            for view in blank_views(first):
                self.assertIs(BlankPaper(first, view).holds(), True)
                self.assertIs(unseen(sweep_drawing(Sheet(), first), "a", "c", tuft(view, (2, 1))), True)
            if blank_views(first):
                self.assertTrue(sweep_is_blank(first, killer(first)))

    def test_quotients(self):
        for first in SHEETS:
            for second in SHEETS[4:]:
                product = plain_sweep(first, second)
                if blank_views(second):
                    self.assertEqual(any_quotient(product, second) * second, product)
                    continue
                self.assertEqual(quotient(product, second), first)
                self.assertEqual(any_quotient(product, second), first)
                self.assertEqual(quotient_paper(product, second).second, first)
                self.assertEqual(told_back(sweep_drawing(Sheet(), second), "a", "c", product), first)
                self.assertEqual(left_alone(Form(Turning(), Sheet.dot() - second, product)), first)

    def test_erasers(self):
        for sheet in (sheet_of(PEN), -sheet_of(Pen.even(-1))):
            self.assertEqual(eraser(sheet), quotient(Sheet.dot(), sheet))
            self.assertEqual(Form(Turning(), sheet, Sheet()).back().gain, eraser(sheet))
            self.assertEqual(erase_paper(sheet).second, eraser(sheet))
            self.assertTrue(is_erasable(sheet) and norm(sheet) == Sheet.dot())

    def test_tufts(self):
        for view in range(6):
            spots = Spots([(0, 0, 2), (1, -1, -3)])
            sheet = tufted(view, spots)
            self.assertEqual((seen_alone(sheet), spots_of(sheet, view)), (view, spots))
            self.assertEqual(parted(sheet)[1][view], spots)
            self.assertEqual([heap.many > 0 for heap in Views.of_sheet(sheet)], [at == view for at in range(6)])
            # Its sweeps are tufted sheets of the same view.
            for other in SHEETS[4:]:
                product = sheet * other
                expected = tufted(view, spots * plain_view(other, view))
                self.assertEqual(product, expected)

    def test_rows_and_tufts(self):
        for seed in range(4):
            drawing = some_drawing(seed, 6)
            for name in drawing:
                sheet = drawing[name]
                if Views.of_sheet(sheet).box() is None or sheet.many > 12:
                    continue
                rows, heaps = parted(sheet)
                self.assertEqual(rows, tuple(shadow_of(drawing, name, seam) for seam in range(3)))
                self.assertEqual(put_together(rows, heaps), sheet)
                self.assertEqual(lift(rows) + joined(*[tufted(view, heaps[view]) for view in range(6)]), sheet)


class CountsTest(unittest.TestCase):
    def test_ways_to_a_digest(self):
        for seed in range(5):
            drawing = some_drawing(seed)
            for name in drawing:
                sheet = drawing[name]
                digest = digest_of(drawing, name)
                self.assertEqual(digest, Digest.of_sheet(sheet))
                self.assertEqual(digest, Digest.of_views(views_of(drawing, name)))
                self.assertEqual((digest.dots, digest.strokes, digest.triangles), (sheet.dots, sheet.strokes, sheet.triangles))
                self.assertEqual(digest.euler, shadow_of(drawing, name, seed).euler)

    def test_ways_to_a_shadow(self):
        for first in SHEETS:
            for second in SHEETS[::2]:
                drawing = sweep_drawing(first, second)
                for seam in range(6):
                    row = shadow(first, seam) * shadow(second, seam)
                    self.assertEqual(shadow_of(drawing, "c", seam), row)
                    self.assertEqual(shadow(plain_sweep(first, second), seam), row)
                    self.assertEqual(row.ahead(), views_of(drawing, "c")[seam].sums(seam))
                    self.assertEqual(row.ahead(), views_of(drawing, "c")[(seam + 1) % 6].sums(seam))

    def test_effects_scripts_and_forms(self):
        script = Script.read("turn 8; sweep 0,0,e:1 1,0,d:2; lay 0,0,u:1; times -2; turn 13; move 3 -1")
        form = Form.of_script(script)
        drawing = Drawing()
        drawing.slot("a", SHEETS[4])
        drawing.layer("b", ("script", "a", script))
        for deed, name in (
            (("turn", "a", 8), "c"), (("turn", "c", 1), "d"),
        ):
            drawing.layer(name, deed)
        self.assertEqual(effect_of(drawing, "a", "b"), Blend.of_form(form))
        self.assertEqual(effect_of(drawing, "a", "b"), Blend.of_script(script))
        self.assertEqual(effect_of(drawing, "a", "d"), Blend.of_script(Script([("turn", 8), ("turn", 1)])))
        for sheet in SHEETS + test_sheets()[::5]:
            stages = list(script.stages(sheet))
            self.assertEqual([form(sheet), Blend.of_form(form)(sheet), tried(drawing, "b", a=sheet)], [stages[-1]] * 3)


class RulesTest(unittest.TestCase):
    """Points 1 to 4."""

    def test_nothing_from_outside(self):
        # No clock, no random numbers, no files: the package imports three words from one module of the library.
        found = set()
        for path in FOLDER.glob("*.py"):
            for node in ast.walk(ast.parse(path.read_text(encoding="utf-8"))):
                self.assertNotIsInstance(node, ast.Import)
                if isinstance(node, ast.ImportFrom) and not node.module.startswith("sixviews."):
                    found |= {(node.module, item.name) for item in node.names}
        self.assertEqual(found, {("heapq", word) for word in ("heapify", "heappush", "heappop")})

    def test_views_and_seams_that_there_are_not(self):
        values = {
            "place": (0, 0), "cell": (0, 0, "d"), "sheet": SHEETS[4], "line": 0, "pen": PEN, "spots": Spots([(0, 0, 1)]),
            "drawing": sweep_drawing(SHEETS[4], SHEETS[5]), "name": "c",
        }
        calls = []
        for module, texts in FUNCTIONS.items():
            for text in texts:
                call = getattr(importlib.import_module(f"sixviews.{module}"), text.split("(")[0])
                if {"view", "seam"} & set(inspect.signature(call).parameters):
                    calls.append((call, {}))
        things = {"Turning": Turning(), "Spots": Spots([(0, 0, 1)])}
        for (_, name), texts in METHODS.items():
            for text in texts:
                if name in things and ("seam" in text or "view)" in text):
                    calls.append((getattr(things[name], text.split("(")[0]), {}))
        self.assertGreaterEqual(len(calls), 20)
        for call, arguments in calls:
            parameters = inspect.signature(call).parameters
            for number in (-1, 6, -6, FAR):
                for word in parameters:
                    if word in ("view", "seam"):
                        arguments[word] = number
                    elif parameters[word].default is inspect.Parameter.empty:
                        arguments[word] = values[word]
                self.assertEqual(refusal(self, BadView, call, **arguments).view, number, call)
        views = Views.of_sheet(SHEETS[4])
        for number in (-1, 6, FAR):
            self.assertEqual(refusal(self, BadView, lambda: views[number]).view, number)

    def test_kinds_that_there_are_not(self):
        path = Path([(0, 1)])
        for kind in ("", "x", "D", "de", "g", " d"):
            cell = (0, 0, kind)
            for call in (
                lambda: corners_of(cell), lambda: closure(cell), lambda: star(cell), lambda: Turning().cell_to(cell),
                lambda: PEN.has(cell), lambda: Pen.unit(kind), lambda: SHEETS[4][cell], lambda: cell in SHEETS[4],
                lambda: Sheet.of((0, 0, "d"), cell), lambda: ink_at(Views.of_pen(PEN), cell),
                lambda: far_ink(PEN, path, cell), lambda: Sheet([(0, 0, "d", 1), (0, 0, kind, 1)]),
            ):
                self.assertEqual(refusal(self, BadKind, call).kind, kind)

    def test_all_errors_are_of_one_class(self):
        for call in (lambda: tuft(6, (0, 0)), lambda: Desk().undo(), lambda: Drawing()["a"], lambda: Script([()])):
            with self.assertRaises(DrawingError) as caught:
                call()
            self.assertIsInstance(caught.exception, ValueError)

    def test_lists_that_are_returned_are_new(self):
        pen, path, sheet = Pen.even(1), Path([(0, 2), (1, 1)]), SHEETS[4]
        views, row = Views.of_sheet(sheet), shadow(sheet, 0)
        desk = Desk()
        desk.slot("a", sheet)
        broken = Views([Spots([(0, 0, 1)])] + [Spots()] * 5)
        for call in (
            lambda: corners_of((0, 0, "u")), lambda: closure((0, 0, "u")), lambda: star((0, 0, "d")), lambda: rising(2, (0, 0)),
            lambda: hanging(2, (0, 0)), lambda: views[0].sums(3), path.knees, broken.broken, row.ahead, row.behind,
            lambda: blank_views(tuft(1, (0, 0))), test_sheets, lambda: list(sheet), lambda: list(views), lambda: list(pen.sides()),
        ):
            first = call()
            self.assertIs(type(first), list)
            self.assertTrue(first)
            kept = list(first)
            first.clear()
            self.assertEqual(call(), kept)

    def test_lists_that_are_passed_are_copied(self):
        rows = [(0, 0, "d", 1)]
        sheet = Sheet(rows)
        heaps = [Spots([(0, 0, 1)])] * 6
        views = Views(heaps)
        gains = [sheet] * 24
        blend = Blend(gains, sheet)
        deeds = [("lay", sheet)]
        script = Script(deeds)
        reaches, runs, marks = [1] * 6, [(0, 1)], [(0, "d", 1)]
        pen, path, row = Pen(reaches), Path(runs), Row(marks)
        for given in (rows, heaps, gains, deeds, reaches, runs, marks):
            given.clear()
        self.assertEqual([sheet.many, len(list(views)), blend.many, len(script.deeds)], [1, 6, 24, 1])
        self.assertEqual([pen.reaches, path.runs, row.many], [(1,) * 6, ((0, 1),), 1])

    def test_no_call_changes_its_arguments(self):
        sheet, other = SHEETS[4], SHEETS[5]
        drawing = sweep_drawing(sheet, other)
        script = Script([("fold", 3), ("lay", other), ("sweep", sheet)])
        form = Form(Turning(4, inverted=True), sheet, other)
        views = Views.of_sheet(sheet)
        before = (
            list(sheet), list(other), state_of(drawing), script.text(), list(form.gain), list(form.laid), [list(h) for h in views],
        )
        for call in (
            lambda: sheet * other, lambda: plain_sweep(sheet, other), lambda: script(sheet), lambda: list(script.stages(sheet)),
            lambda: Blend.of_script(script).then(Blend.of_form(form)), lambda: form.then(form), lambda: one_to_one(form),
            lambda: parting(script, script * 2), lambda: views_of(drawing, "c"), lambda: digest_of(drawing, "c"),
            lambda: shadow_of(drawing, "c", 1), lambda: effect_of(drawing, "a", "c"), lambda: tried(drawing, "c", a=other),
            lambda: unseen(drawing, "a", "c", other), lambda: told_back(drawing, "a", "c", sheet * other),
            lambda: quotient(sheet * other, other), lambda: parted(sheet), lambda: drawn(views), lambda: views.turned(Turning(1)),
            lambda: quotient_paper(sheet, other).holds(), lambda: erase_paper(sheet).holds(),
            lambda: SeamPaper(sheet, other, 1, Spots(), Spots(), 0).holds(), lambda: Digest.of_views(views) ** 3,
        ):
            call()
            now = (
                list(sheet), list(other), state_of(drawing), script.text(), list(form.gain), list(form.laid),
                [list(h) for h in views],
            )
            self.assertEqual(now, before)

    def test_large_numbers_take_no_longer(self):
        # Each of these calls would never end if it went through all numbers up to its bound.
        pen, path = Pen([FAR, BIG, 0, 3, 2, BIG]), Path([(0, FAR), (2, BIG)])
        wide = Pen.even(FAR)
        sheet = Sheet.dot(FAR, -BIG, ink=FAR) + tuft(2, (-FAR, BIG))
        drawing = sweep_drawing(sheet, Sheet.dot(-FAR, FAR, ink=-BIG))
        self.assertEqual(ink_at(Views.of_pen(wide), (FAR, 0, "d")), 1)
        self.assertEqual(Digest.of_pen(pen) * Digest.of_path(path), Digest.of_views(Views.of_pen(pen) * Views.of_path(path)))
        self.assertEqual(dot_growth(sheet, pen)(0), sheet.dots)
        self.assertEqual(drawing["c"], sheet.moved(-FAR, FAR) * -BIG)
        self.assertEqual(views_of(drawing, "c"), Views.of_sheet(drawing["c"]))
        self.assertEqual(shadows(drawing["c"]), tuple(shadow_of(drawing, "c", seam) for seam in range(3)))
        self.assertEqual(path.steps, FAR + BIG)
        self.assertEqual(next(path.stations()), (0, 0))
        self.assertEqual(refusal(self, TooHeavy, shadow_of_pen, wide, 0).weight, 2 * FAR)
        script = Script([("move", FAR, FAR), ("times", -FAR), ("fold", 13)])
        self.assertEqual(Blend.of_script(script)(sheet), script(sheet))
        self.assertEqual(plain_view(sheet, 2), Views.of_sheet(sheet)[2])

    def test_order_of_the_errors(self):
        # Arguments are checked in the order of the parameters; what depends on several comes behind them.
        drawing = sweep_drawing(SHEETS[4], SHEETS[5])
        self.assertEqual(refusal(self, UnknownName, shadow_of, drawing, "x", 9).name, "x")
        self.assertEqual(refusal(self, UnknownName, effect_of, drawing, "x", "y").name, "x")
        self.assertEqual(refusal(self, BadView, spots_of, SHEETS[4], 6).view, 6)
        self.assertEqual(refusal(self, BadView, tuft, view=7, place=(0, 0)).view, 7)

    def test_numbers_of_python(self):
        # Texts of numbers with more than 400 digits are not asked for; the numbers themselves are exact.
        huge = Sheet.dot(ink=10 ** 5000)
        self.assertEqual((huge * huge)[0, 0, "d"], 10 ** 10000)
        self.assertEqual(Digest.of_sheet(huge).raised(3).euler, 10 ** 15000)
        self.assertGreaterEqual(sys.version_info[:2], (3, 11))


if __name__ == "__main__":
    unittest.main()
