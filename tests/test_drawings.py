"""Points 58 and 59: drawings."""

import unittest

from sixviews.drawings import Drawing, tried
from sixviews.errors import (
    BadDeed, BadName, NotLayer, NotSlot, TakenName, TooHeavy, TooMany, UnknownName,
)
from sixviews.scripts import Script
from sixviews.sheets import Sheet
from sixviews.tufts import tuft
from tests.drawing_helpers import all_sheets, by_the_table, small, some_drawing, state_of
from tests.helpers import BIG, refusal, some_rows
from tests.test_forms import cells

FAR = 10 ** 40 - 1
A, B = Sheet(some_rows(20, 3, 2)), Sheet(some_rows(21, 4, 1))
SCRIPT = Script.read("fold 3; lay 0,0,d:1; sweep 0,0,e:1")
LETTERS = "abcdefghijklmnopqrstuvwxyz"
BAD_NAMES = ["", "A", "aB", "a1", "a b", " a", "a ", "a_", "abcdefghi", "a-b", "{", "`", "a\n", "1", "z" * 20]


def two_slots():
    """A drawing with the slots a and b."""
    drawing = Drawing()
    drawing.slot("a", A)
    drawing.slot("b", B)
    return drawing


def changed_cells(before, after):
    """The number of cells whose inks differ."""
    old, new = {row[:3]: row[3] for row in before}, {row[:3]: row[3] for row in after}
    return len([cell for cell in old.keys() | new.keys() if old.get(cell, 0) != new.get(cell, 0)])


def report_of(before, after):
    """The report of a change between two dicts of sheets."""
    pairs = [(name, changed_cells(before[name], after[name])) for name in before]
    return [(name, count) for name, count in pairs if count]


class NamesTest(unittest.TestCase):
    def test_no_names(self):
        drawing = Drawing()
        self.assertEqual((list(drawing), drawing.slots, drawing.layers), ([], (), ()))
        self.assertIs("a" in drawing, False)
        self.assertEqual(drawing.fill(), [])
        self.assertEqual(Drawing.MOST, 12)

    def test_order_of_the_names(self):
        drawing = two_slots()
        self.assertIs(drawing.layer("z", ("sum", "a", "b")), None)
        self.assertIs(drawing.slot("c", Sheet()), None)
        drawing.layer(name="aa", deed=("times", "z", 2))
        drawing.slot(name="ab", sheet=A)
        self.assertEqual(list(drawing), ["a", "b", "z", "c", "aa", "ab"])
        self.assertEqual(drawing.slots, ("a", "b", "c", "ab"))
        self.assertEqual(drawing.layers, ("z", "aa"))
        self.assertEqual([type(drawing.slots), type(drawing.layers)], [tuple, tuple])
        for name in drawing:
            self.assertIs(name in drawing, True)
        for name in ("aaa", "", "A", "slot"):
            self.assertIs(name in drawing, False)
        drawing["a"] = B
        self.assertEqual(list(drawing), ["a", "b", "z", "c", "aa", "ab"])

    def test_names_with_1_to_8_letters(self):
        for name in ("a", "z", "slot", "abcdefgh", "zzzzzzzz", LETTERS[9:17]):
            drawing = Drawing()
            drawing.slot(name, A)
            drawing.layer("l" if name != "l" else "m", ("times", name, 1))
            self.assertEqual(drawing[name], A)
            other = two_slots()
            other.layer(name if name != "a" else "c", ("sum", "a", "b"))
            self.assertEqual(len(list(other)), 3)

    def test_bad_names(self):
        for name in BAD_NAMES:
            drawing = two_slots()
            before = state_of(drawing)
            self.assertEqual(refusal(self, BadName, drawing.slot, name, A).name, name)
            self.assertEqual(refusal(self, BadName, drawing.layer, name, ("sum", "a", "b")).name, name)
            self.assertEqual(refusal(self, BadName, drawing.layer, name, ()).name, name)
            self.assertEqual(state_of(drawing), before)

    def test_taken_names(self):
        drawing = two_slots()
        drawing.layer("c", ("sum", "a", "b"))
        before = state_of(drawing)
        for name in ("a", "b", "c"):
            self.assertEqual(refusal(self, TakenName, drawing.slot, name, A).name, name)
            self.assertEqual(refusal(self, TakenName, drawing.layer, name, ("sum", "a", "b")).name, name)
            self.assertEqual(refusal(self, TakenName, drawing.layer, name, ("spin", "x")).name, name)
        self.assertEqual(state_of(drawing), before)

    def test_twelve_names(self):
        drawing = two_slots()
        for at in range(5):
            drawing.slot("s" * (at + 1), A)
            drawing.layer("l" * (at + 1), ("times", "a", at))
        self.assertEqual(len(list(drawing)), 12)
        before = state_of(drawing)
        self.assertEqual(refusal(self, TooMany, drawing.slot, "new", A).count, 12)
        self.assertEqual(refusal(self, TooMany, drawing.layer, "new", ("sum", "a", "b")).count, 12)
        # What concerns the name and the deed comes first.
        self.assertEqual(refusal(self, BadName, drawing.slot, "New", A).name, "New")
        self.assertEqual(refusal(self, TakenName, drawing.slot, "a", A).name, "a")
        self.assertEqual(refusal(self, BadDeed, drawing.layer, "new", ("spin", "a")).at, 0)
        self.assertEqual(refusal(self, UnknownName, drawing.layer, "new", ("sum", "a", "new")).name, "new")
        self.assertEqual(state_of(drawing), before)
        drawing["a"] = cells(81)
        drawing["b"] = cells(50)
        # A sweep that is too heavy comes last.
        self.assertEqual(refusal(self, TooMany, drawing.layer, "new", ("sweep", "a", "b")).count, 12)

    def test_names_may_be_added_in_a_loop(self):
        drawing = two_slots()
        for name in drawing:
            drawing.layer("x" + name, ("times", name, 2))
        self.assertEqual(list(drawing), ["a", "b", "xa", "xb"])

    def test_asking_for_names(self):
        drawing = two_slots()
        drawing.layer("c", ("move", "a", 1, 2))
        self.assertEqual((drawing["a"], drawing["b"]), (A, B))
        self.assertEqual(drawing.deed(name="c"), ("move", "a", 1, 2))
        for name in ("d", "", "A", "abcdefghi"):
            self.assertEqual(refusal(self, UnknownName, lambda: drawing[name]).name, name)
            self.assertEqual(refusal(self, UnknownName, drawing.deed, name).name, name)
        self.assertEqual(refusal(self, NotLayer, drawing.deed, "a").name, "a")


class LayersTest(unittest.TestCase):
    def test_all_deeds(self):
        for deed, sheet in (
            (("sum", "a", "b"), A + B), (("sum", "a", "a"), A * 2), (("sweep", "a", "b"), A * B),
            (("sweep", "b", "b"), B * B), (("times", "a", -FAR), A * -FAR), (("times", "b", 0), Sheet()),
            (("move", "b", FAR, -BIG), B.moved(FAR, -BIG)), (("script", "a", SCRIPT), SCRIPT(A)),
            (("script", "b", Script()), B),
        ):
            drawing = two_slots()
            drawing.layer("c", deed)
            self.assertEqual((drawing["c"], drawing.deed("c")), (sheet, deed))
            self.assertIs(type(drawing.deed("c")), tuple)
        drawing = two_slots()
        for code in range(24):
            drawing = two_slots()
            drawing.layer("c", ("turn", "a", code))
            self.assertEqual(drawing["c"], by_the_table(("turn", "a", code), {"a": A}))

    def test_layers_upon_layers(self):
        for seed in range(12):
            drawing = some_drawing(seed, 12)
            sheets = all_sheets(drawing, {})
            self.assertEqual({name: drawing[name] for name in drawing}, sheets)

    def test_deeds_that_there_are_not(self):
        for deed in (
            (), ("",), ("spin", "a"), ("sum",), ("sum", "a"), ("sum", "a", "b", "a"), ("sweep", "a"), ("turn", "a"),
            ("turn", "a", 1, 2), ("turn", "a", -1), ("turn", "a", 24), ("turn", "x", FAR), ("times", "a"),
            ("times", "a", 1, 2), ("move", "a", 1), ("move", "a", 1, 2, 3), ("script", "a"), ("script",),
            ("script", "a", SCRIPT, SCRIPT), ("lay", "a", "b"), ("fold", "a", 1), ("Sum", "a", "b"),
        ):
            drawing = two_slots()
            before = state_of(drawing)
            self.assertEqual(refusal(self, BadDeed, drawing.layer, "c", deed).at, 0)
            self.assertEqual(state_of(drawing), before)

    def test_unknown_names(self):
        drawing = two_slots()
        for deed, name in (
            (("sum", "x", "y"), "x"), (("sum", "a", "y"), "y"), (("sweep", "c", "a"), "c"), (("sweep", "a", "c"), "c"),
            (("turn", "c", 1), "c"), (("times", "", 1), ""), (("move", "A", 1, 1), "A"), (("script", "bb", SCRIPT), "bb"),
        ):
            before = state_of(drawing)
            self.assertEqual(refusal(self, UnknownName, drawing.layer, "c", deed).name, name)
            self.assertEqual(state_of(drawing), before)

    def test_sweeps_that_are_too_heavy(self):
        drawing = Drawing()
        drawing.slot("a", cells(50))
        drawing.slot("b", cells(81, (0, 1)))
        drawing.slot("c", cells(80, (0, 1)))
        drawing.layer("ac", ("sweep", "a", "c"))
        self.assertEqual(drawing["ac"].many, 4000)
        before = state_of(drawing)
        heavy = Script([("sweep", cells(2, (500, 0))), ("sweep", cells(41, (0, 1))), ("sweep", cells(99))])
        for deed, weight in (
            (("sweep", "a", "b"), 4050), (("sweep", "b", "a"), 4050), (("sweep", "b", "b"), 81 * 81),
            (("script", "a", heavy), 4100),
        ):
            self.assertEqual(refusal(self, TooHeavy, drawing.layer, "new", deed).weight, weight)
            self.assertEqual(state_of(drawing), before)

    def test_deeds_are_copied(self):
        drawing = two_slots()
        deed = ["times", "a", 2]
        drawing.layer("c", tuple(deed))
        deed[2] = 3
        self.assertEqual(drawing.deed("c"), ("times", "a", 2))


class ChangesTest(unittest.TestCase):
    def test_layers_follow(self):
        for seed in range(10):
            drawing = some_drawing(seed)
            for at, name in enumerate(drawing.slots):
                before = all_sheets(drawing, {})
                sheet = small(1000 * seed + at)
                after = all_sheets(drawing, {name: sheet})
                report = drawing.change(name=name, sheet=sheet)
                self.assertEqual(report, report_of(before, after))
                self.assertIs(type(report), list)
                self.assertTrue(all(type(item) is tuple for item in report))
                self.assertEqual({known: drawing[known] for known in drawing}, after)

    def test_assignments(self):
        for seed in range(6):
            drawing, twin = some_drawing(seed), some_drawing(seed)
            for name in drawing.slots:
                drawing[name] = tuft(seed, (0, 0))
                twin.change(name, tuft(seed, (0, 0)))
            self.assertEqual(state_of(drawing), state_of(twin))

    def test_reports(self):
        drawing = two_slots()
        drawing.layer("c", ("sum", "a", "b"))
        drawing.layer("d", ("times", "a", 0))
        drawing.layer("e", ("turn", "b", 3))
        drawing.layer("f", ("move", "c", 1, 1))
        self.assertEqual(drawing.change("a", A + Sheet.of((9, 9, "u"), (9, 9, "v"))), [("a", 2), ("c", 2), ("f", 2)])
        self.assertEqual(drawing.change("a", drawing["a"]), [])
        # Cells of which the ink is another one count, too.
        self.assertEqual(drawing.change("a", drawing["a"] + Sheet.of((9, 9, "u"))), [("a", 1), ("c", 1), ("f", 1)])
        self.assertEqual(drawing.change("b", Sheet())[0], ("b", B.many))
        self.assertEqual(drawing.change("b", Sheet()), [])

    def test_changes_without_a_difference_behind_the_slot(self):
        drawing = two_slots()
        drawing.layer("c", ("sweep", "a", "b"))
        drawing["a"], drawing["b"] = tuft(0, (0, 0)), tuft(1, (0, 0))
        self.assertEqual(drawing.change("b", tuft(3, (5, 5))), [("b", 12)])

    def test_several_slots_at_once(self):
        for seed in range(10):
            drawing = some_drawing(seed)
            changes = {name: small(2000 + 7 * seed + at) for at, name in enumerate(drawing.slots)}
            before, after = all_sheets(drawing, {}), all_sheets(drawing, changes)
            expected = report_of(before, after)
            self.assertEqual(drawing.fill(**changes), expected)
            self.assertEqual({name: drawing[name] for name in drawing}, after)
            self.assertEqual(drawing.fill(**changes), [])
            self.assertEqual(drawing.fill(), [])

    def test_all_names_as_keywords(self):
        drawing = Drawing()
        for name in ("sheets", "name", "drawing", "sheet", "deed", "cls", "slot"):
            drawing.slot(name, A)
        report = drawing.fill(sheets=B, name=B, drawing=B, sheet=B, deed=B, cls=B, slot=B)
        self.assertEqual([name for name, _ in report], list(drawing))
        self.assertEqual(tried(drawing, "slot", sheets=A, slot=Sheet()), Sheet())

    def test_refused_names(self):
        drawing = two_slots()
        drawing.layer("c", ("sum", "a", "b"))
        before = state_of(drawing)
        for name in ("x", "", "A"):
            self.assertEqual(refusal(self, UnknownName, drawing.change, name, A).name, name)
            self.assertEqual(refusal(self, UnknownName, drawing.__setitem__, name, A).name, name)
        self.assertEqual(refusal(self, NotSlot, drawing.change, "c", A).name, "c")
        self.assertEqual(refusal(self, NotSlot, drawing.__setitem__, "c", A).name, "c")
        # The first keyword in the order of the call.
        self.assertEqual(refusal(self, UnknownName, lambda: drawing.fill(a=B, x=B, c=B)).name, "x")
        self.assertEqual(refusal(self, NotSlot, lambda: drawing.fill(a=B, c=B, x=B)).name, "c")
        self.assertEqual(refusal(self, UnknownName, lambda: drawing.fill(y=B, x=B)).name, "y")
        self.assertEqual(state_of(drawing), before)

    def test_changes_that_are_too_heavy(self):
        drawing = Drawing()
        drawing.slot("a", Sheet.dot())
        drawing.slot("b", cells(50))
        drawing.slot("c", cells(60))
        drawing.layer("ca", ("sweep", "c", "a"))
        drawing.layer("ba", ("sweep", "b", "a"))
        drawing.layer("s", ("script", "a", Script([("sweep", cells(40))])))
        before = state_of(drawing)
        up = (0, 1)
        for many, weight in ((67, 4020), (81, 4860), (101, 6060)):
            for call in (drawing.change, drawing.__setitem__):
                self.assertEqual(refusal(self, TooHeavy, call, "a", cells(many, up)).weight, weight)
                self.assertEqual(state_of(drawing), before)
        # Several at once: the layers are made from the sheets that all slots have afterwards.
        self.assertEqual(refusal(self, TooHeavy, lambda: drawing.fill(a=cells(81, up), c=A)).weight, 4050)
        self.assertEqual(refusal(self, TooHeavy, lambda: drawing.fill(b=A, a=cells(101, up), c=A)).weight, 4040)
        self.assertEqual(refusal(self, NotSlot, lambda: drawing.fill(a=cells(101, up), s=A)).name, "s")
        self.assertEqual(state_of(drawing), before)
        drawing.fill(a=cells(66, up), b=cells(60))
        self.assertEqual([drawing["ca"].many, drawing["s"].many], [3960, 2640])

    def test_a_way_that_is_too_heavy_alone(self):
        # One after the other would be refused, both at once are not.
        drawing = Drawing()
        drawing.slot("a", cells(80))
        drawing.slot("b", cells(50, (0, 1)))
        drawing.layer("c", ("sweep", "a", "b"))
        self.assertEqual(refusal(self, TooHeavy, drawing.change, "b", cells(80, (0, 1))).weight, 6400)
        report = drawing.fill(b=cells(80, (0, 1)), a=cells(50))
        self.assertEqual(report, [("a", 30), ("b", 30), ("c", 30 * 50 * 2)])

    def test_large_numbers(self):
        drawing = two_slots()
        drawing.layer("c", ("move", "a", FAR, -BIG))
        drawing.layer("d", ("times", "c", FAR))
        drawing.layer("e", ("sweep", "d", "b"))
        drawing["b"] = Sheet.dot(-FAR, BIG, ink=FAR)
        self.assertEqual(drawing["e"], A * (FAR * FAR))


class TriedTest(unittest.TestCase):
    def test_sheets_without_a_change(self):
        for seed in range(8):
            drawing = some_drawing(seed, 5)
            before = state_of(drawing)
            changes = {name: small(3000 + seed) for name in drawing.slots[:2]}
            after = all_sheets(drawing, changes)
            for name in drawing:
                if name not in ("name", "drawing"):
                    self.assertEqual(tried(drawing, name, **changes), after[name])
                    self.assertEqual(tried(drawing=drawing, name=name), drawing[name])
            self.assertEqual(state_of(drawing), before)

    def test_refusals(self):
        drawing = Drawing()
        drawing.slot("a", cells(50))
        drawing.slot("b", A)
        drawing.layer("c", ("sweep", "a", "a"))
        before = state_of(drawing)
        self.assertEqual(refusal(self, UnknownName, lambda: tried(drawing, "x", y=A)).name, "x")
        self.assertEqual(refusal(self, UnknownName, lambda: tried(drawing, "a", y=A)).name, "y")
        self.assertEqual(refusal(self, NotSlot, lambda: tried(drawing, "a", c=A, y=A)).name, "c")
        # Also from layers that the name does not use.
        for name in ("a", "b", "c"):
            self.assertEqual(refusal(self, TooHeavy, lambda: tried(drawing, name, a=cells(64))).weight, 4096)
        self.assertEqual(state_of(drawing), before)
        self.assertEqual(tried(drawing, "b", a=cells(63)), A)


if __name__ == "__main__":
    unittest.main()
