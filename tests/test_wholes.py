"""Point 60: views, digests and shadows of the names of a drawing."""

import unittest

from sixviews.digests import Digest
from sixviews.drawings import Drawing
from sixviews.errors import BadView, UnknownName
from sixviews.rows import Row
from sixviews.scripts import Script
from sixviews.shadows import shadow
from sixviews.sheets import Sheet
from sixviews.views import Views
from sixviews.wholes import digest_of, shadow_of, views_of
from tests.drawing_helpers import some_drawing, state_of
from tests.helpers import BIG, refusal, some_rows
from tests.test_forms import cells

FAR = 10 ** 40 - 1
A, B = Sheet(some_rows(20, 3, 2)), Sheet(some_rows(21, 4, 1))


class SlotsOnly(Drawing):
    """A drawing that does not tell the sheets of its layers."""

    def __getitem__(self, at):
        if at in self.layers:
            raise AssertionError(at)
        return super().__getitem__(at)


def all_deeds(drawing):
    """The drawing, with two slots and layers with all deeds."""
    drawing.slot("a", A)
    drawing.slot("b", B)
    script = Script.read("fold 16; lay 0,0,d:1 3,0,u:-2; sweep 0,0,e:1 1,1,v:2; turn 8; times -3; move 2 -5")
    for name, deed in (
        ("c", ("sum", "a", "b")), ("d", ("sweep", "a", "b")), ("e", ("turn", "c", 8)), ("f", ("turn", "d", 20)),
        ("g", ("times", "e", -3)), ("h", ("move", "f", FAR, -BIG)), ("i", ("script", "b", script)),
        ("j", ("sum", "h", "i")), ("k", ("sweep", "g", "a")), ("l", ("sum", "k", "j")),
    ):
        drawing.layer(name, deed)
    return drawing


class WholesTest(unittest.TestCase):
    def check(self, drawing, sheets):
        """What is found for all names is what belongs to their sheets."""
        for name in drawing:
            self.assertEqual(views_of(drawing=drawing, name=name), Views.of_sheet(sheets[name]))
            self.assertEqual(digest_of(drawing=drawing, name=name), Digest.of_sheet(sheets[name]))
            for seam in range(6):
                self.assertEqual(shadow_of(drawing=drawing, name=name, seam=seam), shadow(sheets[name], seam))

    def test_all_deeds(self):
        drawing = all_deeds(Drawing())
        self.check(drawing, {name: drawing[name] for name in drawing})
        self.assertIs(type(views_of(drawing, "l")), Views)
        self.assertIs(type(digest_of(drawing, "l")), Digest)
        self.assertIs(type(shadow_of(drawing, "l", 2)), Row)

    def test_all_turnings(self):
        for code in range(24):
            drawing = Drawing()
            drawing.slot("a", A)
            drawing.layer("b", ("turn", "a", code))
            drawing.layer("c", ("script", "b", Script([("fold", 23 - code)])))
            self.check(drawing, {name: drawing[name] for name in drawing})

    def test_other_drawings(self):
        for seed in range(8):
            drawing = some_drawing(seed)
            self.check(drawing, {name: drawing[name] for name in drawing})

    def test_behind_changes(self):
        drawing = all_deeds(Drawing())
        drawing["a"] = Sheet.of((1, 1, "w"))
        self.check(drawing, {name: drawing[name] for name in drawing})
        drawing.fill(b=Sheet(), a=Sheet.dot(ink=FAR))
        self.check(drawing, {name: drawing[name] for name in drawing})

    def test_from_the_slots_alone(self):
        twin = all_deeds(Drawing())
        self.check(all_deeds(SlotsOnly()), {name: twin[name] for name in twin})

    def test_sweeps_of_the_weight_4000(self):
        drawing = Drawing()
        drawing.slot("a", cells(50))
        drawing.slot("b", cells(80, (0, 3)))
        drawing.layer("c", ("sweep", "a", "b"))
        drawing.layer("d", ("script", "a", Script([("sweep", cells(80, (0, 1)))])))
        self.check(drawing, {name: drawing[name] for name in drawing})

    def test_many_cells(self):
        # In view of so many cells no sweep would be allowed, but sums and folds are.
        rows = [(x, y, "denuvw"[(x + y) % 6], x - 3 * y) for x in range(40) for y in range(20)]
        drawing = Drawing()
        drawing.slot("a", Sheet(rows))
        drawing.layer("b", ("move", "a", 100, 0))
        drawing.layer("c", ("sum", "a", "b"))
        drawing.layer("d", ("script", "c", Script([("fold", 1), ("times", FAR), ("lay", A)])))
        self.check(drawing, {name: drawing[name] for name in drawing})

    def test_refusals(self):
        drawing = all_deeds(Drawing())
        before = state_of(drawing)
        for name in ("x", "", "A"):
            self.assertEqual(refusal(self, UnknownName, views_of, drawing, name).name, name)
            self.assertEqual(refusal(self, UnknownName, digest_of, drawing, name).name, name)
            for seam in (0, 6, -1):
                self.assertEqual(refusal(self, UnknownName, shadow_of, drawing, name, seam).name, name)
        for seam in (-1, 6, -6, FAR):
            for name in ("a", "l"):
                self.assertEqual(refusal(self, BadView, shadow_of, drawing, name, seam).view, seam)
        self.assertEqual(state_of(drawing), before)


if __name__ == "__main__":
    unittest.main()
