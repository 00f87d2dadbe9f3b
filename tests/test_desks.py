"""Points 62 and 63: desks, their steps and their journals."""

import random
import unittest

from sixviews.desks import Desk
from sixviews.drawings import Drawing
from sixviews.errors import (
    BadCount, BadDeed, BadLine, BadName, BadText, NoStep, NotSlot, TakenName, TooHeavy, TooMany, UnknownName,
)
from sixviews.scripts import Script
from sixviews.sheets import Sheet
from tests.drawing_helpers import all_sheets, small, some_deed, state_of
from tests.helpers import BIG, refusal, some_rows
from tests.test_drawings import BAD_NAMES, report_of
from tests.test_forms import cells

FAR = 10 ** 40 - 1
A, B = Sheet(some_rows(20, 3, 2)), Sheet(some_rows(21, 4, 1))
DOT = Sheet.dot()
UP = (0, 1)


def dots(many):
    """A sheet for each number."""
    return Sheet.dot(ink=many)


def told(desk):
    """All that a desk tells."""
    return (state_of(desk.drawing), desk.undoable, desk.redoable, desk.depth, desk.journal())


def put_often(desk, many, name="a"):
    """Put the sheets 1, 2, .. into a slot."""
    for at in range(many):
        desk.put(name, dots(at + 1))


def chain(error):
    """The classes and the values of an error's causes."""
    found = []
    while error.__cause__ is not None:
        error = error.__cause__
        found.append((type(error), *vars(error).values()))
    return found


class StepsTest(unittest.TestCase):
    def test_new_desk(self):
        desk = Desk()
        self.assertEqual((desk.undoable, desk.redoable, desk.depth, desk.journal()), (0, 0, 20, ""))
        self.assertIs(type(desk.drawing), Drawing)
        self.assertEqual(list(desk.drawing), [])
        refusal(self, NoStep, desk.undo)
        refusal(self, NoStep, desk.redo)
        self.assertEqual(desk.journal(), "")

    def test_put_undo_and_redo(self):
        desk = Desk()
        drawing = desk.drawing
        self.assertIs(desk.slot(name="a", sheet=A), None)
        self.assertIs(desk.slot("b", B), None)
        self.assertIs(desk.layer(name="c", deed=("sum", "a", "b")), None)
        self.assertEqual(desk.put(name="a", sheet=A + DOT), [("a", 1), ("c", 1)])
        self.assertEqual(desk.put("b", Sheet()), [("b", B.many), ("c", B.many)])
        self.assertEqual((desk.undoable, desk.redoable), (2, 0))
        self.assertEqual(desk.undo(), [("b", B.many), ("c", B.many)])
        self.assertEqual((desk.undoable, desk.redoable, drawing["b"], drawing["a"]), (1, 1, B, A + DOT))
        self.assertEqual(desk.undo(), [("a", 1), ("c", 1)])
        self.assertEqual((desk.undoable, desk.redoable, drawing["c"]), (0, 2, A + B))
        refusal(self, NoStep, desk.undo)
        self.assertEqual(desk.redo(), [("a", 1), ("c", 1)])
        self.assertEqual(desk.redo(), [("b", B.many), ("c", B.many)])
        self.assertEqual((desk.undoable, desk.redoable, drawing["c"]), (2, 0, A + DOT))
        refusal(self, NoStep, desk.redo)
        self.assertIs(desk.drawing, drawing)

    def test_steps_that_change_nothing(self):
        desk = Desk()
        desk.slot("a", A)
        self.assertEqual(desk.put("a", A), [])
        self.assertEqual(desk.undoable, 1)
        self.assertEqual((desk.undo(), desk.redoable), ([], 1))
        self.assertEqual((desk.redo(), desk.undoable), ([], 1))

    def test_a_new_step_forgets_the_undone_ones(self):
        desk = Desk()
        desk.slot("a", A)
        put_often(desk, 4)
        desk.undo(), desk.undo(), desk.undo()
        self.assertEqual((desk.undoable, desk.redoable), (1, 3))
        desk.put("a", B)
        self.assertEqual((desk.undoable, desk.redoable), (2, 0))
        refusal(self, NoStep, desk.redo)
        desk.undo()
        self.assertEqual(desk.drawing["a"], dots(1))
        # A step that is refused forgets nothing.
        refusal(self, UnknownName, desk.put, "x", A)
        self.assertEqual((desk.undoable, desk.redoable), (1, 1))

    def test_adding_forgets_all_steps(self):
        for add in (lambda desk: desk.slot("n", A), lambda desk: desk.layer("n", ("times", "a", 2))):
            desk = Desk()
            desk.slot("a", A)
            put_often(desk, 3)
            desk.undo()
            # What is refused forgets nothing.
            refusal(self, TakenName, desk.slot, "a", A)
            refusal(self, UnknownName, desk.layer, "n", ("times", "x", 2))
            self.assertEqual((desk.undoable, desk.redoable), (2, 1))
            add(desk)
            self.assertEqual((desk.undoable, desk.redoable), (0, 0))
            refusal(self, NoStep, desk.undo)
            refusal(self, NoStep, desk.redo)
            self.assertEqual(desk.drawing["a"], dots(2))

    def test_twenty_steps(self):
        desk = Desk()
        desk.slot("a", A)
        put_often(desk, 30)
        self.assertEqual(desk.undoable, 20)
        for at in range(20):
            desk.undo()
            self.assertEqual(desk.drawing["a"], dots(29 - at))
        refusal(self, NoStep, desk.undo)
        self.assertEqual((desk.undoable, desk.redoable, desk.drawing["a"]), (0, 20, dots(10)))

    def test_new_depths(self):
        for depth in (1, 2, 7, 19, 20):
            desk = Desk()
            desk.slot("a", A)
            put_often(desk, 10)
            self.assertIs(desk.set_depth(depth=depth), None)
            self.assertEqual((desk.depth, desk.undoable), (depth, min(depth, 10)))
            put_often(desk, 12)
            self.assertEqual(desk.undoable, min(depth, 20))

    def test_the_oldest_steps_are_forgotten(self):
        desk = Desk()
        desk.slot("a", A)
        put_often(desk, 6)
        desk.depth = 2
        self.assertEqual((desk.depth, desk.undoable), (2, 2))
        desk.undo()
        desk.undo()
        self.assertEqual(desk.drawing["a"], dots(4))
        refusal(self, NoStep, desk.undo)
        # A larger depth brings nothing back.
        desk.depth = 20
        self.assertEqual((desk.undoable, desk.redoable), (0, 2))

    def test_undone_steps_are_not_forgotten(self):
        desk = Desk()
        desk.slot("a", A)
        put_often(desk, 6)
        for _ in range(4):
            desk.undo()
        desk.set_depth(1)
        self.assertEqual((desk.undoable, desk.redoable), (1, 4))
        # Behind a redo there may be too many steps.
        for at in range(4):
            self.assertEqual(desk.redo(), [("a", 1)])
            self.assertEqual((desk.undoable, desk.redoable), (1, 3 - at))
        desk.undo()
        self.assertEqual((desk.drawing["a"], desk.undoable, desk.redoable), (dots(5), 0, 1))

    def test_depths_that_there_are_not(self):
        desk = Desk()
        desk.slot("a", A)
        put_often(desk, 3)
        before = told(desk)
        for depth in (0, 21, -1, FAR, -FAR):
            self.assertEqual(refusal(self, BadCount, desk.set_depth, depth).count, depth)
            with self.assertRaises(BadCount) as caught:
                desk.depth = depth
            self.assertEqual(caught.exception.count, depth)
            self.assertEqual(told(desk), before)

    def test_against_a_list_of_steps(self):
        for seed in range(6):
            dice = random.Random(seed)
            desk = Desk()
            desk.slot("a", A)
            desk.slot("b", B)
            desk.layer("c", ("sum", "a", "b"))
            sheets = {"a": A, "b": B}
            done, undone, depth = [], [], 20
            for _ in range(150):
                word = dice.choice(["put", "put", "undo", "redo", "depth"])
                if word == "put":
                    name, sheet = dice.choice("ab"), dots(dice.randint(0, 3))
                    desk.put(name, sheet)
                    done, undone = (done + [(name, sheets[name], sheet)])[-depth:], []
                    sheets[name] = sheet
                elif word == "depth" and dice.random() < 0.4:
                    depth = dice.randint(1, 20)
                    desk.depth = depth
                    done = done[-depth:]
                elif word == "undo" and done:
                    desk.undo()
                    undone.append(done.pop())
                    sheets[undone[-1][0]] = undone[-1][1]
                elif word == "redo" and undone:
                    desk.redo()
                    done = done + [undone.pop()]
                    sheets[done[-1][0]] = done[-1][2]
                    done = done[-depth:]
                self.assertEqual((desk.undoable, desk.redoable, desk.depth), (len(done), len(undone), depth))
                self.assertEqual([desk.drawing[name] for name in "abc"], [sheets["a"], sheets["b"], sheets["a"] + sheets["b"]])

    def test_reports(self):
        desk = Desk()
        desk.slot("a", A)
        desk.slot("b", B)
        desk.layer("c", ("sweep", "a", "b"))
        desk.layer("d", ("script", "c", Script.read("fold 3; times 2")))
        for sheet in (B, Sheet(), small(3)):
            before = all_sheets(desk.drawing, {})
            after = all_sheets(desk.drawing, {"a": sheet})
            report = report_of(before, after)
            self.assertEqual(desk.put("a", sheet), report)
            self.assertEqual(desk.undo(), report)
            self.assertEqual(desk.redo(), report)
            self.assertIs(type(report), list)


class RefusedTest(unittest.TestCase):
    def test_errors_of_the_drawing(self):
        desk = Desk()
        desk.slot("a", cells(50))
        desk.slot("b", cells(80, UP))
        desk.layer("c", ("sweep", "a", "b"))
        put_often(desk, 3)
        desk.undo()
        before = told(desk)
        for error, value, call, args in (
            (BadName, "A", desk.slot, ("A", A)), (TakenName, "c", desk.slot, ("c", A)), (BadName, "", desk.layer, ("", ())),
            (TakenName, "a", desk.layer, ("a", ())), (BadDeed, 0, desk.layer, ("d", ())),
            (BadDeed, 0, desk.layer, ("d", ("turn", "x", 24))), (UnknownName, "x", desk.layer, ("d", ("sum", "a", "x"))),
            (TooHeavy, 6400, desk.layer, ("d", ("sweep", "b", "b"))), (UnknownName, "x", desk.put, ("x", A)),
            (NotSlot, "c", desk.put, ("c", A)), (TooHeavy, 4080, desk.put, ("a", cells(51))),
        ):
            self.assertEqual(list(vars(refusal(self, error, call, *args)).values()), [value])
            self.assertEqual(told(desk), before)
        for name in BAD_NAMES:
            self.assertEqual(refusal(self, BadName, desk.slot, name, A).name, name)
        self.assertEqual(told(desk), before)

    def test_twelve_names(self):
        desk = Desk()
        for at in range(12):
            desk.slot("abcdefghijkl"[at], A)
        before = told(desk)
        self.assertEqual(refusal(self, TooMany, desk.slot, "m", A).count, 12)
        self.assertEqual(refusal(self, TooMany, desk.layer, "m", ("sum", "a", "a")).count, 12)
        self.assertEqual(told(desk), before)


class JournalTest(unittest.TestCase):
    def test_lines(self):
        desk = Desk()
        desk.slot("a", Sheet.of((0, 0, "e"), (1, -1, "u")))
        desk.slot("b", Sheet())
        script = Script([("fold", 3), ("lay", Sheet.dot(1, 2)), ("move", 1, -2)])
        for name, deed in (
            ("c", ("sum", "a", "b")), ("d", ("sweep", "a", "c")), ("e", ("turn", "d", 23)), ("f", ("times", "a", -3)),
            ("g", ("move", "f", 0, -FAR)), ("h", ("script", "a", script)), ("i", ("script", "a", Script())),
        ):
            desk.layer(name, deed)
        desk.put("a", DOT)
        desk.put("a", DOT)
        desk.undo()
        desk.redo()
        desk.set_depth(5)
        desk.depth = 5
        self.assertEqual(desk.journal().split("\n"), [
            "slot a 0,0,e:1 1,-1,u:1", "slot b blank", "layer c sum a b", "layer d sweep a c", "layer e turn d 23",
            "layer f times a -3", f"layer g move f 0 -{FAR}", "layer h script a fold 3; lay 1,2,d:1; move 1 -2",
            "layer i script a nothing", "put a 0,0,d:1", "put a 0,0,d:1", "undo", "redo", "depth 5", "depth 5",
        ])

    def test_journals_are_read_again(self):
        for seed in range(8):
            dice = random.Random(seed)
            desk = Desk()
            desk.slot("a", small(seed))
            desk.slot("b", small(seed + 50))
            for at in range(60):
                word = dice.choice(["slot", "layer", "put", "put", "undo", "redo", "depth"])
                try:
                    if word == "slot" and dice.random() < 0.1:
                        desk.slot("s" * dice.randint(1, 9), small(at))
                    elif word == "layer" and dice.random() < 0.5:
                        desk.layer("l" * dice.randint(1, 8), some_deed(dice, list(desk.drawing)))
                    elif word == "put":
                        desk.put(dice.choice(list(desk.drawing)), small(at))
                    elif word == "undo":
                        desk.undo()
                    elif word == "redo":
                        desk.redo()
                    elif word == "depth" and dice.random() < 0.3:
                        desk.depth = dice.randint(0, 21)
                except (BadName, TakenName, TooMany, NotSlot, NoStep, BadCount, TooHeavy):
                    pass
            again = Desk.read(text=desk.journal())
            self.assertEqual(told(again), told(desk))
            self.assertIs(type(again), Desk)
            while desk.undoable:
                self.assertEqual(desk.undo(), again.undo())
            self.assertEqual(told(again), told(desk))

    def test_the_empty_text(self):
        self.assertEqual(told(Desk.read("")), told(Desk()))

    def test_refused_lines(self):
        start = "slot a 0,0,d:1\nslot b blank\nlayer c sum a b"
        self.assertEqual(Desk.read(start).journal(), start)
        for line in (
            "", " ", "undo ", " undo", "Undo", "undo 1", "redo ", "redo undo", "slot", "slot ", "slot d", "slot  blank",
            "slot  ", "put", "put a", "put  blank", "put ", "layer", "layer ", "layer d", "layer d ", "layer d sum",
            "layer d sum ", "layer d sum a", "layer d sum a ", "layer d sum a  b", "layer d sum a b ", "layer d sum a b c",
            "layer  sum a b", "layer d  sum a b", "layer d sum  a b", "layer d spin a b", "layer d lay a blank",
            "layer d turn a", "layer d turn a ", "layer d turn a x", "layer d turn a 01", "layer d turn a +1",
            "layer d turn a 1 ", "layer d turn a 1 2", "layer d turn 1", "layer d times a", "layer d times a 1.5",
            "layer d times a -0", "layer d move a 1", "layer d move a 1 ", "layer d move a 1 2 3", "layer d move a 1  2",
            "layer d script", "layer d script a", "layer d script ", "layer d sweep a", "depth", "depth ", "depth x",
            "depth 05", "depth 5 ", "depth  5", "depth +5", "depth 5 5", "fill a blank", "drop a", "slot\ta blank",
            "fill d sum a b", "undo d times a 2", "Layer d sum a b",
            "layer d times a 1" + "0" * 400, "depth 1" + "0" * 400, "layer d move a 0 1" + "0" * 400,
        ):
            for text, at in ((line, 0), (f"{start}\n{line}", 3), (f"{start}\n{line}\nundo", 3)):
                if text == "":
                    continue
                error = refusal(self, BadLine, Desk.read, text)
                self.assertEqual((error.at, error.__cause__), (at, None), repr(text))

    def test_empty_lines(self):
        for text, at in (
            ("\n", 0), ("slot a blank\n", 1), ("\nslot a blank", 0), ("slot a blank\n\nslot b blank", 1),
        ):
            self.assertEqual(refusal(self, BadLine, Desk.read, text).at, at)

    def test_causes(self):
        start = "slot a 0,0,d:1\nslot b blank\nlayer c sum a b"
        for line, cause in (
            ("slot a ", [(BadText, 0)]), ("slot d ", [(BadText, 0)]), ("slot d  blank", [(BadText, 0)]),
            ("slot d blank ", [(BadText, 0)]), ("slot d 0,0,d:1 ", [(BadText, 1)]), ("slot A 0,0,x:1", [(BadText, 0)]),
            ("put x 0,0,d:1 0,0,d:2", [(BadText, 1)]), ("put a ", [(BadText, 0)]), ("slot A blank", [(BadName, "A")]),
            ("slot a blank", [(TakenName, "a")]), ("layer A sum x y", [(BadName, "A")]), ("slot 1 blank", [(BadName, "1")]),
            ("layer abcdefghi sum a b", [(BadName, "abcdefghi")]), ("layer c sum x y", [(TakenName, "c")]),
            ("layer d turn a 24", [(BadDeed, 0)]), ("layer d turn x -1", [(BadDeed, 0)]),
            ("layer d turn a 1" + "0" * 399, [(BadDeed, 0)]), ("layer d sum x a", [(UnknownName, "x")]),
            ("layer d sum a Y", [(UnknownName, "Y")]), ("layer d times ; 5", [(UnknownName, ";")]),
            ("layer d script a ", [(BadLine, 0)]), ("layer d script a turn", [(BadLine, 0)]),
            ("layer A script x turn 24", [(BadLine, 0)]), ("layer d script a turn 1; ", [(BadLine, 1)]),
            ("layer d script a turn 1; lay 0,0,d:1 x", [(BadLine, 1), (BadText, 1)]),
            ("layer d script a sweep ", [(BadLine, 0), (BadText, 0)]),
            ("layer d script a " + "; ".join(["turn 1"] * 41), [(TooHeavy, 41)]),
            ("layer d script x nothing", [(UnknownName, "x")]), ("put x blank", [(UnknownName, "x")]),
            ("put c blank", [(NotSlot, "c")]), ("undo", [(NoStep,)]), ("redo", [(NoStep,)]), ("depth 0", [(BadCount, 0)]),
            ("depth 21", [(BadCount, 21)]), ("depth -1", [(BadCount, -1)]), ("depth -" + "9" * 400, [(BadCount, -int("9" * 400))]),
        ):
            error = refusal(self, BadLine, Desk.read, f"{start}\n{line}\nspin")
            self.assertEqual((error.at, chain(error)), (3, cause), line)

    def test_heavy_lines(self):
        wide, tall = cells(50).text(), cells(80, UP).text()
        start = f"slot a {wide}\nslot b {tall}\nlayer c sweep a b"
        self.assertEqual(Desk.read(start).drawing["c"].many, 4000)
        error = refusal(self, BadLine, Desk.read, f"{start}\nput a {cells(51).text()}")
        self.assertEqual((error.at, chain(error)), (3, [(TooHeavy, 4080)]))
        error = refusal(self, BadLine, Desk.read, f"{start}\nlayer d sweep b b")
        self.assertEqual((error.at, chain(error)), (3, [(TooHeavy, 6400)]))
        names = "\n".join(f"slot {'abcdefghijklm'[at]} blank" for at in range(13))
        error = refusal(self, BadLine, Desk.read, names)
        self.assertEqual((error.at, chain(error)), (12, [(TooMany, 12)]))

    def test_long_numbers(self):
        long = "9" * 400
        text = f"slot a {long},-{long},d:{long}\nlayer b times a -{long}\nlayer c move a {long} -{long}"
        desk = Desk.read(text)
        self.assertEqual(desk.journal(), text)
        self.assertEqual(desk.drawing["b"][int(long), -int(long), "d"], -int(long) ** 2)
        error = refusal(self, BadLine, Desk.read, f"slot a 1{long},0,d:1")
        self.assertEqual((error.at, chain(error)), (0, [(BadText, 0)]))

    def test_inks_without_a_text(self):
        # Numbers that are too long for a text may be put, if the journal is not asked for.
        huge = Sheet.dot(ink=10 ** 6000)
        desk = Desk()
        desk.slot("a", huge)
        desk.layer("b", ("times", "a", FAR))
        self.assertEqual(desk.put("a", huge + DOT), [("a", 1), ("b", 1)])
        desk.undo()
        self.assertEqual(desk.drawing["b"], huge * FAR)


class FullJournalTest(unittest.TestCase):
    def full(self):
        """A desk with 200 lines, with steps that can be undone and redone."""
        desk = Desk()
        desk.slot("a", cells(50))
        desk.slot("b", cells(80, UP))
        desk.layer("c", ("sweep", "a", "b"))
        put_often(desk, 195)
        desk.undo()
        desk.set_depth(19)
        self.assertEqual(len(desk.journal().split("\n")), 200)
        return desk

    def test_a_further_line(self):
        desk = self.full()
        before = told(desk)
        for call in (
            lambda: desk.slot("n", A), lambda: desk.layer("n", ("sum", "a", "b")), lambda: desk.put("a", A),
            lambda: desk.put("a", desk.drawing["a"]), desk.undo, desk.redo, lambda: desk.set_depth(5),
            lambda: desk.set_depth(19),
        ):
            self.assertEqual(refusal(self, TooMany, call).count, 200)
            self.assertEqual(told(desk), before)
        with self.assertRaises(TooMany) as caught:
            desk.depth = 3
        self.assertEqual((caught.exception.count, told(desk)), (200, before))

    def test_other_errors_come_first(self):
        desk = self.full()
        before = told(desk)
        for error, value, call, args in (
            (BadName, "A", desk.slot, ("A", A)), (TakenName, "c", desk.slot, ("c", A)), (BadDeed, 0, desk.layer, ("d", ())),
            (UnknownName, "x", desk.layer, ("d", ("sum", "a", "x"))), (TooHeavy, 6400, desk.layer, ("d", ("sweep", "b", "b"))),
            (UnknownName, "x", desk.put, ("x", A)), (NotSlot, "c", desk.put, ("c", A)),
            (TooHeavy, 4080, desk.put, ("a", cells(51))), (BadCount, 0, desk.set_depth, (0,)),
            (BadCount, 21, desk.set_depth, (21,)),
        ):
            self.assertEqual(list(vars(refusal(self, error, call, *args)).values()), [value])
            self.assertEqual(told(desk), before)
        desk = Desk()
        desk.slot("a", A)
        for _ in range(199):
            desk.set_depth(7)
        refusal(self, NoStep, desk.undo)
        refusal(self, NoStep, desk.redo)
        self.assertEqual(refusal(self, TooMany, desk.put, "a", B).count, 200)
        self.assertEqual(desk.drawing["a"], A)

    def test_twelve_names_and_a_full_journal(self):
        desk = Desk()
        for at in range(12):
            desk.slot("abcdefghijkl"[at], A)
        for _ in range(188):
            desk.depth = 4
        self.assertEqual(refusal(self, TooMany, desk.slot, "m", A).count, 12)
        self.assertEqual(refusal(self, TooMany, desk.layer, "m", ("sum", "a", "a")).count, 12)
        self.assertEqual(refusal(self, TooMany, desk.put, "a", B).count, 200)

    def test_long_journals_are_read(self):
        desk = self.full()
        text = desk.journal()
        self.assertEqual(told(Desk.read(text)), told(desk))
        error = refusal(self, BadLine, Desk.read, text + "\nundo")
        self.assertEqual((error.at, chain(error)), (200, [(TooMany, 200)]))
        error = refusal(self, BadLine, Desk.read, text + "\nput x blank")
        self.assertEqual((error.at, chain(error)), (200, [(UnknownName, "x")]))

    def test_the_200th_line(self):
        desk = Desk()
        desk.slot("a", A)
        for _ in range(198):
            desk.put("a", A)
        self.assertEqual(desk.put("a", B), report_of({"a": A}, {"a": B}))
        self.assertEqual(len(desk.journal().split("\n")), 200)
        self.assertEqual(refusal(self, TooMany, desk.put, "a", A).count, 200)


class LargeTest(unittest.TestCase):
    def test_large_numbers(self):
        desk = Desk()
        desk.slot("a", Sheet.dot(FAR, -BIG, ink=FAR))
        desk.layer("b", ("move", "a", -FAR, BIG))
        desk.layer("c", ("times", "b", -FAR))
        desk.put("a", Sheet.dot(BIG, BIG, ink=-1))
        desk.undo()
        self.assertEqual(desk.drawing["c"], Sheet.dot(ink=-FAR * FAR))
        self.assertEqual(told(Desk.read(desk.journal())), told(desk))

    def test_nothing_that_is_passed_changes(self):
        desk = Desk()
        deed = ("script", "a", Script([("fold", 1)]))
        desk.slot("a", A)
        desk.layer("b", deed)
        report = desk.put("a", B)
        told_first = list(report)
        report.clear()
        desk.undo().append(1)
        self.assertEqual(desk.redo(), told_first)
        self.assertEqual(deed, ("script", "a", Script([("fold", 1)])))


if __name__ == "__main__":
    unittest.main()
