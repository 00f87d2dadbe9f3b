"""Points 2 to 4 and the interface: names, parameters, equality and the kinds of what is returned."""

import doctest
import importlib
import inspect
import pathlib
import unittest

from sixviews.blends import Blend
from sixviews.cells import rising
from sixviews.desks import Desk
from sixviews.digests import Digest
from sixviews.erasers import pen_of
from sixviews.forms import Form
from sixviews.growth import dot_growth
from sixviews.judging import one_to_one, test_sheets
from sixviews.killers import blank_views
from sixviews.norms import weights
from sixviews.paths import Path
from sixviews.pens import Pen
from sixviews.rows import Row
from sixviews.scripts import Script
from sixviews.shadows import shadows
from sixviews.sheets import Sheet
from sixviews.splits import parted
from sixviews.spots import Spots
from sixviews.turnings import Turning
from sixviews.views import Views

FUNCTIONS = {
    "cells": [
        "height(view, place)", "line_of(seam, place)", "dimension(cell)", "corners_of(cell)", "closure(cell)",
        "star(cell)", "lowest(view, cell)", "highest(view, cell)", "rising(view, place)", "hanging(view, place)",
    ],
    "dividing": ["divided(spots, divisor)"],
    "recipes": ["recipe(pen)", "cooked(counts)", "recipes(pen)"],
    "mixed": ["mixed(first, second)", "spare(first, second)", "same_ratio(first, second)"],
    "pairs": ["swept_cells(cell, other)"],
    "sheets": ["joined(*sheets)", "swept(*sheets)", "turned_copies(sheet)"],
    "rims": ["outline(sheet)"],
    "cuts": [
        "lower(sheet, seam, line=0)", "upper(sheet, seam, line=0)", "slice_at(sheet, seam, line=0)",
        "band(sheet, seam, line=0)", "lower_pen(pen, seam, line=0)",
    ],
    "reading": ["drawn(views)", "ink_at(views, cell)", "window(views, left, bottom, *, wide=4, high=4)"],
    "filled": ["sheet_of(pen)", "inside_of(pen)"],
    "corners": ["corner_sum(views)", "dot_spots(views)"],
    "strokes": ["path_sheet(path)", "stroke(pen, path)", "stays(pen, path, cell)", "far_ink(pen, path, cell)"],
    "erasers": ["counter(sheet)", "eraser(sheet)", "is_erasable(sheet)", "pen_of(sheet)"],
    "norms": ["norm(sheet)", "weights(sheet)"],
    "quotients": ["quotient(sheet, divisor)", "any_quotient(sheet, divisor)"],
    "rows": ["row_eraser(row)"],
    "shadows": ["shadow(sheet, seam)", "shadows(sheet)", "lift(rows)", "shadow_of_pen(pen, seam)"],
    "tufts": ["tuft(view, place)", "tufted(view, spots)", "seen_alone(sheet)", "spots_of(sheet, view)"],
    "splits": ["parted(sheet)", "put_together(rows, heaps)"],
    "killers": ["blank_views(sheet)", "sweep_is_blank(first, second)", "killer(sheet)"],
    "growth": ["dot_growth(sheet, pen)", "stroke_growth(sheet, pen)", "triangle_growth(sheet, pen)"],
    "tables": ["count_table(sheets)"],
    "judging": [
        "test_sheets()", "parting(first, second)", "one_to_one(form)", "is_onto(form)", "left_alone(form)",
        "is_settled(form)",
    ],
    "drawings": ["tried(drawing, name, **sheets)"],
    "wholes": ["views_of(drawing, name)", "digest_of(drawing, name)", "shadow_of(drawing, name, seam)"],
    "effects": [
        "effect_of(drawing, slot, name)", "unseen(drawing, slot, name, sheet)", "told_back(drawing, slot, name, sheet)",
    ],
    "plain": ["plain_sweep(first, second)", "plain_view(sheet, view)"],
    "making": [
        "erase_paper(sheet)", "kill_paper(sheet)", "quotient_paper(sheet, divisor)", "script_paper(first, second)",
    ],
}

METHODS = {
    ("turnings", "Turning"): [
        "__init__(self, turns=0, *, mirrored=False, inverted=False)", "coded(code)", "place_to(self, place)",
        "cell_to(self, cell)", "view_to(self, view)", "seam_to(self, seam)", "then(self, other)", "back(self)",
        "__eq__(self, other)",
    ],
    ("spots", "Spots"): [
        "__init__(self, rows=())", "__iter__(self)", "__getitem__(self, at)", "__add__(self, other)",
        "__sub__(self, other)", "__neg__(self)", "__mul__(self, other)", "__rmul__(self, other)",
        "__eq__(self, other)", "__bool__(self)", "moved(self, dx, dy)", "turned(self, turning)", "sums(self, seam)",
        "moment(self, seam)", "single(self)", "box(self)",
    ],
    ("pens", "Pen"): [
        "__init__(self, reaches)", "corners(self)", "sides(self)", "dimension(self)", "__add__(self, other)",
        "__sub__(self, other)", "__neg__(self)", "__mul__(self, other)", "__rmul__(self, other)",
        "__eq__(self, other)", "__contains__(self, place)", "has(self, cell)", "moved(self, dx, dy)",
        "turned(self, turning)", "around(places)", "unit(kind)", "even(size)", "of_sides(sides, x=0, y=0)",
    ],
    ("sheets", "Sheet"): [
        "__init__(self, rows=())", "__iter__(self)", "__getitem__(self, at)", "__contains__(self, cell)",
        "__add__(self, other)", "__sub__(self, other)", "__neg__(self)", "__mul__(self, other)",
        "__rmul__(self, other)", "__pow__(self, other)", "__invert__(self)", "__eq__(self, other)",
        "__bool__(self)", "raised(self, n)", "moved(self, dx, dy)", "turned(self, turning)", "text(self)",
        "read(cls, text)", "of(cls, *cells)", "dot(x=0, y=0, *, ink=1)",
    ],
    ("paths", "Path"): [
        "__init__(self, runs=())", "__add__(self, other)", "__mul__(self, other)", "__eq__(self, other)",
        "back(self)", "knees(self)", "stations(self)", "text(self)", "read(cls, text)",
    ],
    ("views", "Views"): [
        "__init__(self, heaps)", "of_sheet(sheet)", "of_pen(pen)", "of_path(path)", "__iter__(self)",
        "__getitem__(self, at)", "__add__(self, other)", "__sub__(self, other)", "__neg__(self)",
        "__mul__(self, other)", "__rmul__(self, other)", "__invert__(self)", "__eq__(self, other)", "__bool__(self)",
        "moved(self, dx, dy)", "turned(self, turning)", "broken(self)", "check(self)", "box(self)",
    ],
    ("rows", "Row"): [
        "__init__(self, marks=())", "__iter__(self)", "__getitem__(self, at)", "__add__(self, other)",
        "__sub__(self, other)", "__neg__(self)", "__mul__(self, other)", "__rmul__(self, other)", "__invert__(self)",
        "__eq__(self, other)", "__bool__(self)", "moved(self, by)", "flipped(self)", "ahead(self)", "behind(self)",
        "of_ends(ahead, behind)", "stretch(low, high)",
    ],
    ("digests", "Digest"): [
        "__init__(self, euler, moments, triangles)", "of_sheet(sheet)", "of_pen(pen)", "of_path(path)", "of_views(views)",
        "__add__(self, other)", "__sub__(self, other)", "__neg__(self)", "__mul__(self, other)", "__rmul__(self, other)",
        "raised(self, n)", "__pow__(self, other)", "__eq__(self, other)", "turned(self, turning)",
    ],
    ("growth", "Growth"): [
        "__call__(self, n)", "__add__(self, other)", "__sub__(self, other)", "__eq__(self, other)", "text(self)",
    ],
    ("scripts", "Script"): [
        "__init__(self, deeds=())", "__iter__(self)", "__call__(self, sheet)", "stages(self, sheet)",
        "__add__(self, other)", "__mul__(self, other)", "__eq__(self, other)", "text(self)", "read(cls, text)",
    ],
    ("forms", "Form"): [
        "__init__(self, turning, gain, laid)", "of_script(script)", "__call__(self, sheet)", "then(self, other)",
        "__eq__(self, other)", "back(self)",
    ],
    ("blends", "Blend"): [
        "__init__(self, gains, laid)", "__getitem__(self, at)", "__iter__(self)", "of_script(script)", "of_form(form)",
        "__call__(self, sheet)", "__add__(self, other)", "then(self, other)", "__eq__(self, other)",
    ],
    ("drawings", "Drawing"): [
        "__init__(self)", "slot(self, name, sheet)", "layer(self, name, deed)", "__getitem__(self, at)",
        "__setitem__(self, at, worth)", "change(self, name, sheet)", "fill(self, **sheets)", "__iter__(self)",
        "__contains__(self, name)", "deed(self, name)",
    ],
    ("desks", "Desk"): [
        "__init__(self)", "slot(self, name, sheet)", "layer(self, name, deed)", "put(self, name, sheet)", "undo(self)",
        "redo(self)", "set_depth(self, depth)", "journal(self)", "read(cls, text)",
    ],
    ("papers", "Paper"): ["holds(self)"],
    ("papers", "SweepPaper"): ["__init__(self, first, second, result)", "holds(self)"],
    ("papers", "ErasePaper"): ["__init__(self, first, second)", "holds(self)"],
    ("papers", "QuotientPaper"): ["__init__(self, sheet, divisor, quotient)", "holds(self)"],
    ("papers", "ViewPaper"): ["__init__(self, sheet, view)", "holds(self)"],
    ("papers", "StubbornPaper"): ["__init__(self, sheet, view)", "holds(self)"],
    ("papers", "BlankPaper"): ["__init__(self, sheet, view)", "holds(self)"],
    ("papers", "KillPaper"): ["__init__(self, sheet, killer, view)", "holds(self)"],
    ("papers", "RestPaper"): ["__init__(self, sheet, divisor, view, quotient, rest)", "holds(self)"],
    ("papers", "SeamPaper"): ["__init__(self, sheet, divisor, seam, low_heap, high_heap, line)", "holds(self)"],
    ("papers", "AlikePaper"): ["__init__(self, first, second)", "holds(self)"],
    ("papers", "PartingPaper"): ["__init__(self, first, second, sheet)", "holds(self)"],
}

PROPERTIES = {
    ("turnings", "Turning"): ["code"],
    ("spots", "Spots"): ["total", "many"],
    ("pens", "Pen"): ["is_drawn", "area", "rim"],
    ("sheets", "Sheet"): ["euler", "dots", "strokes", "triangles", "many"],
    ("paths", "Path"): ["end", "steps", "is_straight"],
    ("rows", "Row"): ["euler", "dots", "gaps", "many"],
    ("digests", "Digest"): ["euler", "triangles", "rim", "dots", "strokes"],
    ("growth", "Growth"): ["halves"],
    ("scripts", "Script"): ["is_plain"],
    ("blends", "Blend"): ["many"],
    ("drawings", "Drawing"): ["slots", "layers"],
    ("desks", "Desk"): ["undoable", "redoable", "depth"],
}

STATIC = [
    (Turning, "coded"), (Pen, "around"), (Pen, "unit"), (Pen, "even"), (Pen, "of_sides"), (Sheet, "dot"),
    (Views, "of_sheet"), (Views, "of_pen"), (Views, "of_path"), (Row, "of_ends"), (Row, "stretch"),
    (Digest, "of_sheet"), (Digest, "of_pen"), (Digest, "of_path"), (Digest, "of_views"), (Form, "of_script"),
    (Blend, "of_script"), (Blend, "of_form"),
]
OF_THE_CLASS = [(Sheet, "read"), (Sheet, "of"), (Path, "read"), (Script, "read"), (Desk, "read")]

VIEWS = Views.of_sheet(Sheet.dot())
SCRIPT = Script([("turn", 1)])
GROWTH = dot_growth(Sheet.dot(), Pen.even(1))
DIGEST = Digest(1, [0] * 6, 0)
DESK = Desk.read("slot a blank\nlayer b times a 2")
THINGS = [
    Turning(), Spots([(0, 0, 1)]), Pen.even(1), Sheet.dot(), Path([(0, 1)]), VIEWS, Row([(0, "d", 1)]), DIGEST, GROWTH,
    SCRIPT, Form.of_script(SCRIPT), Blend.of_script(SCRIPT),
]


class Agreeing:
    """An object that says that it is equal to everything."""

    def __eq__(self, other):
        return True

    def __ne__(self, other):
        return False


class InterfaceTest(unittest.TestCase):
    def told(self, module, text, found):
        """The parameters of what was found are as the interface writes them."""
        name = text.split("(")[0]
        self.assertEqual(name + str(inspect.signature(found)), text)
        self.assertEqual(found.__module__, f"sixviews.{module}")

    def test_functions(self):
        for module, texts in FUNCTIONS.items():
            place = importlib.import_module(f"sixviews.{module}")
            for text in texts:
                self.told(module, text, getattr(place, text.split("(")[0]))

    def test_methods_stand_in_the_class_itself(self):
        for (module, name), texts in METHODS.items():
            owner = getattr(importlib.import_module(f"sixviews.{module}"), name)
            self.assertEqual(owner.__module__, f"sixviews.{module}")
            for text in texts:
                method = vars(owner)[text.split("(")[0]]
                self.told(module, text, getattr(method, "__func__", method))

    def test_properties(self):
        for (module, name), properties in PROPERTIES.items():
            owner = getattr(importlib.import_module(f"sixviews.{module}"), name)
            for word in properties:
                self.assertIsInstance(vars(owner)[word], property, (name, word))

    def test_static_and_class_methods(self):
        for owner, name in STATIC:
            self.assertIsInstance(vars(owner)[name], staticmethod)
        for owner, name in OF_THE_CLASS:
            self.assertIsInstance(vars(owner)[name], classmethod)

    def test_generators(self):
        from sixviews.recipes import recipes
        from sixviews.sheets import turned_copies
        for call in (recipes, turned_copies, Path.stations, Script.stages):
            self.assertTrue(inspect.isgeneratorfunction(call))


class EqualityTest(unittest.TestCase):
    def test_objects_of_other_classes(self):
        others = [None, 0, 1, "", "blank", (), [], {}, [(0, 0, 1)], ((0, 0, "d", 1),), (1,) * 6, True, Agreeing(), object()]
        for thing in THINGS:
            for other in others + [item for item in THINGS if item is not thing]:
                self.assertIs(thing == other, False)
                self.assertIs(thing != other, True)

    def test_lists_of_the_same_items(self):
        for thing in THINGS:
            if hasattr(thing, "__iter__"):
                self.assertIs(thing == list(thing), False)
                self.assertIs(list(thing) == thing, False)
                self.assertIs(thing != tuple(thing), True)
        self.assertIs(Pen.even(1) == (1,) * 6, False)
        self.assertIs(Path([(0, 1)]) == ((0, 1),), False)

    def test_blank_objects_of_other_classes(self):
        self.assertIs(Sheet() == Spots(), False)
        self.assertIs(Spots() == Sheet(), False)
        self.assertIs(Path() != Sheet(), True)
        self.assertIs(Views.of_sheet(Sheet()) == Sheet(), False)
        self.assertIs(Sheet() != Views.of_sheet(Sheet()), True)
        self.assertIs(Row() == Sheet(), False)
        self.assertIs(Spots() != Row(), True)
        self.assertIs(Script() == (), False)
        self.assertIs(DIGEST == (1, (0,) * 6, 0), False)
        self.assertIs(Form.of_script(SCRIPT) == Blend.of_script(SCRIPT), False)

    def test_the_same_object(self):
        for thing in THINGS:
            self.assertIs(thing == thing, True)
            self.assertIs(thing != thing, False)


class OperandsTest(unittest.TestCase):
    def test_objects_of_unlike_classes(self):
        for first in THINGS:
            for second in THINGS:
                if type(first) is not type(second):
                    for call in (lambda: first + second, lambda: first - second, lambda: first * second):
                        with self.assertRaises(TypeError):
                            call()


class KindsOfResultsTest(unittest.TestCase):
    def test_tuples(self):
        pen, path = Pen.even(1), Path([(0, 1)])
        spots = Spots([(0, 0, 1)])
        for value in (
            pen.corners(), pen.sides(), pen.reaches, pen.corners()[0], path.runs, path.runs[0], path.end,
            spots.box(), spots.single(), Turning().place_to((0, 1)), Turning().cell_to((0, 1, "e")),
            VIEWS.heaps, VIEWS.box(), weights(Sheet.dot()), pen_of(Sheet.dot()), shadows(Sheet()), parted(Sheet()),
            parted(Sheet())[0], parted(Sheet())[1], DIGEST.moments, GROWTH.halves, SCRIPT.deeds, SCRIPT.deeds[0],
            one_to_one(Form(Turning(), Sheet(), Sheet())), DESK.drawing.slots, DESK.drawing.layers,
            DESK.drawing.deed("b"),
        ):
            self.assertIs(type(value), tuple)

    def test_lists(self):
        broken = Views([Spots([(0, 0, 1)])] + [Spots()] * 5).broken()
        ends = [Row.stretch(0, 1).ahead(), Row.stretch(0, 1).behind()]
        values = [rising(0, (0, 0)), Spots([(0, 0, 1)]).sums(0), Path().knees(), broken, blank_views(Sheet())] + ends
        values += [test_sheets(), DESK.put("a", Sheet.dot()), DESK.undo(), DESK.redo(), DESK.drawing.fill()]
        for value in values:
            self.assertIs(type(value), list)
        for value in (broken[0], ends[0][0], ends[1][0]):
            self.assertIs(type(value), tuple)

    def test_items_are_tuples(self):
        heap = Spots([(0, 0, 1)])
        lists = [rising(0, (0, 0)), heap.sums(0), Path().knees(), heap, Sheet.dot(), Row.stretch(0, 3)]
        for items in lists + [SCRIPT, Blend.of_script(SCRIPT)]:
            for item in items:
                self.assertIs(type(item), tuple)

    def test_lists_may_be_tuples(self):
        self.assertEqual(Sheet(((0, 0, "d", 1),)), Sheet([(0, 0, "d", 1)]))
        self.assertEqual(Spots(((0, 0, 1),)), Spots([(0, 0, 1)]))
        self.assertEqual(Pen((1,) * 6), Pen([1] * 6))
        self.assertEqual(Path(((0, 1),)), Path([(0, 1)]))
        self.assertEqual(Views((Spots(),) * 6), Views([Spots()] * 6))
        self.assertEqual(Row(((0, "d", 1),)), Row([(0, "d", 1)]))
        self.assertEqual(Digest(1, (1,) * 6, 2), Digest(1, [1] * 6, 2))
        self.assertEqual(Script((("turn", 1),)), SCRIPT)
        self.assertEqual(Blend((Sheet(),) * 24, Sheet()), Blend([Sheet()] * 24, Sheet()))


class ReadmeTest(unittest.TestCase):
    def test_examples(self):
        readme = pathlib.Path(__file__).resolve().parent.parent / "README.md"
        result = doctest.testfile(str(readme), module_relative=False)
        self.assertGreater(result.attempted, 0)
        self.assertEqual(result.failed, 0)


if __name__ == "__main__":
    unittest.main()
