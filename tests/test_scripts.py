"""Point 53: scripts."""

import inspect
import unittest

from sixviews.errors import BadCount, BadDeed, BadLine, BadText, TooHeavy
from sixviews.scripts import Script
from sixviews.sheets import Sheet, sweep_of
from sixviews.tufts import tuft
from sixviews.turnings import Turning
from tests.helpers import BIG, refusal, some_rows

FAR = 10 ** 40 - 1
SHEETS = [Sheet(), Sheet.dot(), tuft(4, (1, 2))] + [Sheet(some_rows(seed, 5)) for seed in range(4)]
A, B = Sheet(some_rows(20, 3, 2)), Sheet(some_rows(21, 4, 1))
DEEDS = [
    ("lay", A), ("sweep", B), ("turn", 8), ("times", -3), ("move", 2, -5), ("fold", 13), ("lay", Sheet()), ("times", 0),
    ("fold", 0), ("turn", 23), ("sweep", Sheet()), ("move", FAR, -BIG), ("times", FAR), ("lay", Sheet.dot(-BIG, FAR)),
]
WIDE = Sheet([(3 * k, 0, "d", 1) for k in range(50)])
TALL = Sheet([(0, 3 * k, "d", 1) for k in range(81)])


def by_words(deed, sheet):
    """The sheet that the deed gives, by the table of point 53."""
    word = deed[0]
    if word == "lay":
        return sheet + deed[1]
    if word == "sweep":
        return sweep_of(sheet, deed[1])
    if word == "turn":
        return sheet.turned(Turning.coded(deed[1]))
    if word == "times":
        return sheet * deed[1]
    if word == "move":
        return sheet.moved(deed[1], deed[2])
    return sheet + sheet.turned(Turning.coded(deed[1]))


def cause_of(error):
    """The class and the index of the cause of an error, or None."""
    cause = error.__cause__
    return None if cause is None else (type(cause), cause.at)


class DoneTest(unittest.TestCase):
    def test_single_deeds(self):
        for deed in DEEDS:
            for sheet in SHEETS:
                self.assertEqual(Script([deed])(sheet), by_words(deed, sheet))
        for code in range(24):
            for word in ("turn", "fold"):
                self.assertEqual(Script([(word, code)])(SHEETS[4]), by_words((word, code), SHEETS[4]))

    def test_deed_by_deed(self):
        for start in range(len(DEEDS)):
            deeds = DEEDS[start:start + 5]
            for sheet in SHEETS:
                stages = [sheet]
                for deed in deeds:
                    stages.append(by_words(deed, stages[-1]))
                script = Script(deeds=deeds)
                self.assertEqual(list(script.stages(sheet=sheet)), stages)
                self.assertEqual(script(sheet=sheet), stages[-1])

    def test_no_deeds(self):
        script = Script()
        self.assertEqual((script.deeds, list(script), script.text()), ((), [], "nothing"))
        for sheet in SHEETS:
            self.assertEqual(script(sheet), sheet)
            self.assertEqual(list(script.stages(sheet)), [sheet])
        self.assertEqual(Script([]), Script(()))
        self.assertIs(script.is_plain, True)

    def test_stages_one_by_one(self):
        self.assertTrue(inspect.isgeneratorfunction(Script.stages))
        stages = Script([("lay", WIDE), ("sweep", TALL), ("times", 2)]).stages(Sheet())
        self.assertEqual(next(stages), Sheet())
        self.assertEqual(next(stages), WIDE)
        self.assertEqual(refusal(self, TooHeavy, next, stages).weight, 50 * 81)

    def test_weights(self):
        eighty = Sheet([(0, 3 * k, "d", 1) for k in range(80)])
        self.assertEqual(Script([("sweep", eighty)])(WIDE).many, 4000)
        script = Script([("move", 1, 1), ("sweep", TALL), ("sweep", eighty)])
        self.assertEqual(refusal(self, TooHeavy, script, WIDE).weight, 4050)
        # The first deed that is too heavy tells the weight.
        script = Script([("sweep", eighty), ("sweep", TALL), ("sweep", TALL)])
        self.assertEqual(refusal(self, TooHeavy, script, WIDE).weight, 4000 * 81)
        stages = script.stages(WIDE)
        self.assertEqual([next(stages).many, next(stages).many], [50, 4000])
        self.assertEqual(refusal(self, TooHeavy, next, stages).weight, 4000 * 81)
        # Only sweeps are weighed.
        self.assertEqual(Script([("lay", WIDE), ("fold", 1), ("times", 2), ("turn", 12)])(TALL * 9).euler, 18 * 81 * 2 + 200)

    def test_large_numbers(self):
        script = Script([("move", FAR, -FAR), ("times", -FAR), ("turn", 2), ("move", BIG, 1)])
        # Two turns carry (x, y) to (-x - y, x).
        x, y = BIG + FAR, 3 - FAR
        self.assertEqual(script(Sheet.dot(BIG, 3, ink=FAR)), Sheet.dot(-x - y + BIG, x + 1, ink=-FAR * FAR))

    def test_plain(self):
        self.assertIs(Script([deed for deed in DEEDS if deed[0] != "fold"]).is_plain, True)
        self.assertIs(Script(DEEDS).is_plain, False)
        for at in range(3):
            deeds = [("turn", 1)] * 3
            deeds[at] = ("fold", 1)
            self.assertIs(Script(deeds).is_plain, False)

    def test_the_lists_are_copied(self):
        deeds = [("turn", 1), ("times", 2)]
        script = Script(deeds)
        deeds.append(("turn", 2))
        deeds[0] = ("turn", 3)
        self.assertEqual(script.deeds, (("turn", 1), ("times", 2)))
        self.assertEqual(list(script), [("turn", 1), ("times", 2)])
        self.assertIs(type(script.deeds), tuple)
        self.assertTrue(all(type(deed) is tuple for deed in script))


class MadeTest(unittest.TestCase):
    def test_deeds_that_there_are_not(self):
        bad = [
            (), ("",), ("spin", 1), ("Lay", A), ("lay",), ("lay", A, A), ("sweep",), ("turn",), ("turn", 1, 2), ("times",),
            ("times", 1, 1), ("move", 1), ("move", 1, 2, 3), ("move",), ("fold",), ("fold", 1, 1), ("turn", -1), ("turn", 24),
            ("fold", -1), ("fold", 24), ("turn", FAR), ("fold", -FAR), ("sum", "a", "b"),
        ]
        for deed in bad:
            for at in (0, 1, 4):
                deeds = [("turn", 23), ("fold", 0), ("move", 1, 2), ("lay", A), ("times", FAR), ("sweep", B)]
                deeds[at] = deed
                before = list(deeds)
                self.assertEqual(refusal(self, BadDeed, Script, deeds).at, at)
                self.assertEqual(deeds, before)
        # The first one is told.
        self.assertEqual(refusal(self, BadDeed, Script, [("turn", 1), ("turn", 24), ()]).at, 1)
        self.assertEqual(refusal(self, BadDeed, Script, [("turn", 1), (), ("turn", 24)]).at, 1)

    def test_number_of_deeds(self):
        self.assertEqual(Script.MOST, 40)
        self.assertEqual(len(Script([("turn", 1)] * 40).deeds), 40)
        for many in (41, 42, 2000):
            self.assertEqual(refusal(self, TooHeavy, Script, [("turn", 1)] * many).weight, many)
        self.assertEqual(refusal(self, BadDeed, Script, [("turn", 1)] * 41 + [("turn", 24)]).at, 41)

    def test_equality(self):
        self.assertTrue(Script(DEEDS[:3]) == Script(tuple(DEEDS[:3])))
        self.assertTrue(Script([("lay", Sheet.dot() - Sheet.dot())]) == Script([("lay", Sheet())]))
        unlike = [
            [], [("turn", 1)], [("turn", 2)], [("fold", 1)], [("times", 1)], [("turn", 1), ("turn", 1)], [("lay", A)],
            [("sweep", A)], [("lay", B)], [("move", 1, 2)], [("move", 2, 1)],
        ]
        for first in range(len(unlike)):
            for second in range(len(unlike)):
                self.assertIs(Script(unlike[first]) == Script(unlike[second]), first == second)
                self.assertIs(Script(unlike[first]) != Script(unlike[second]), first != second)
        # Scripts that give the same sheets are not equal if their deeds are not.
        self.assertTrue(Script([("turn", 0)]) != Script())


class SumsTest(unittest.TestCase):
    def test_sums(self):
        first, second = Script(DEEDS[:4]), Script(DEEDS[4:7])
        self.assertEqual((first + second).deeds, tuple(DEEDS[:7]))
        self.assertEqual((first + Script()).deeds, first.deeds)
        for sheet in SHEETS:
            self.assertEqual((first + second)(sheet), second(first(sheet)))
        self.assertEqual((first.deeds, second.deeds), (tuple(DEEDS[:4]), tuple(DEEDS[4:7])))

    def test_multiples(self):
        script = Script([("turn", 1), ("lay", A)])
        self.assertEqual((script * 3).deeds, script.deeds * 3)
        self.assertEqual((script * 0, script * 1), (Script(), script))
        self.assertEqual((Script() * 40).deeds, ())
        self.assertEqual(len((script * 20).deeds), 40)
        self.assertEqual((script * 6)(A), script(script(script(script(script(script(A)))))))

    def test_too_many_deeds(self):
        thirty = Script([("turn", 1)] * 30)
        self.assertEqual(len((thirty + Script([("turn", 2)] * 10)).deeds), 40)
        self.assertEqual(refusal(self, TooHeavy, lambda: thirty + Script([("turn", 2)] * 11)).weight, 41)
        self.assertEqual(refusal(self, TooHeavy, lambda: thirty * 2).weight, 60)
        self.assertEqual(refusal(self, TooHeavy, lambda: thirty * 40).weight, 1200)
        self.assertEqual(refusal(self, TooHeavy, lambda: Script([("turn", 1)] * 2) * 21).weight, 42)
        for n in (-1, 41, FAR, -FAR):
            for script in (thirty, Script()):
                self.assertEqual(refusal(self, BadCount, lambda: script * n).count, n)
        self.assertEqual(thirty.deeds, (("turn", 1),) * 30)

    def test_other_operands(self):
        script = Script([("turn", 1)])
        for other in (1, [("turn", 1)], None, "turn 1"):
            refusal(self, TypeError, lambda: script + other)
        for other in ([], None, "2", script):
            refusal(self, TypeError, lambda: script * other)


class TextTest(unittest.TestCase):
    def test_example(self):
        script = Script([("turn", 1), ("lay", Sheet.dot(2, 0)), ("times", -1)])
        self.assertEqual(script.text(), "turn 1; lay 2,0,d:1; times -1")
        self.assertEqual(Script.read("turn 1; lay 2,0,d:1; times -1"), script)

    def test_texts(self):
        for deed, text in (
            (("lay", Sheet()), "lay blank"), (("sweep", Sheet()), "sweep blank"), (("turn", 0), "turn 0"),
            (("turn", 23), "turn 23"), (("times", 0), "times 0"), (("times", -FAR), f"times -{FAR}"),
            (("move", 0, -1), "move 0 -1"), (("move", FAR, BIG), f"move {FAR} {BIG}"), (("fold", 12), "fold 12"),
            (("lay", Sheet([(1, 2, "u", -3), (0, 0, "d", 1)])), "lay 0,0,d:1 1,2,u:-3"),
            (("sweep", Sheet.of((-1, 0, "e"))), "sweep -1,0,e:1"),
        ):
            self.assertEqual(Script([deed]).text(), text)
            self.assertEqual(Script.read(text=text).deeds, (deed,))
            self.assertEqual(Script([deed] * 3).text(), "; ".join([text] * 3))

    def test_texts_are_read_again(self):
        for start in range(len(DEEDS)):
            script = Script(DEEDS[start:])
            self.assertEqual(Script.read(script.text()), script)
            self.assertIs(type(Script.read(script.text())), Script)
        self.assertEqual(Script.read("nothing"), Script())

    def test_refused_texts(self):
        bad = [
            "", " ", ";", "; ", "nothing ", " nothing", "Nothing", "nothing;", "turn", "turn ", "turn  1", "turn 1 ",
            " turn 1", "turn 01", "turn +1", "turn -0", "turn 1.0", "turn x", "turn 24", "turn -1", "turn 1 2", "turn\n1",
            "turn 1\n", "turn1", "Turn 1", "spin 1", "times", "times ", "times 1 1", "times --1", "times 00", "times 1_0",
            "move 1", "move 1 2 3", "move 1  2", "move 1,2", "move 1 2 ", "fold", "fold 24", "fold -1", "lay", "sweep",
            "layblank", "lay\nblank", "blank", "0,0,d:1", "turn 1;", "turn 1;turn 1", "turn 1 ; turn 1", "sum a b",
        ]
        for text in bad:
            error = refusal(self, BadLine, Script.read, text)
            self.assertEqual((error.at, error.__cause__), (0, None), text)
            whole = f"turn 1; {text}; spin 1"
            self.assertEqual(refusal(self, BadLine, Script.read, whole).at, 1, text)

    def test_splitting(self):
        for text, at in (
            ("turn 1; ", 1), ("turn 1; ; turn 1", 1), ("turn 1;  turn 1", 1), ("; turn 1", 0), ("turn 1; turn 1;", 1),
            ("turn 1; nothing", 1), ("nothing; turn 1", 0), ("turn 1; turn 1; turn", 2), ("turn 1; turn; turn", 1),
        ):
            self.assertEqual(refusal(self, BadLine, Script.read, text).at, at, text)

    def test_causes(self):
        for sheet, at in (
            ("", 0), (" ", 0), ("blank ", 0), ("0,0,d:1 ", 1), ("0,0,d:1 0,0,d:1", 1), ("0,0,d:0", 0), ("x", 0),
            ("0,0,d:1 0,0,e:1 1,0,z:1", 2), ("0,0,d:1  1,0,d:1", 1), ("0,0,d:1;", 0), ("0,0,d:1\n", 0), (" 0,0,d:1", 0),
        ):
            for word in ("lay", "sweep"):
                for before in (0, 2):
                    text = "; ".join(["turn 1"] * before + [f"{word} {sheet}", "spin 1"])
                    error = refusal(self, BadLine, Script.read, text)
                    self.assertEqual((error.at, cause_of(error)), (before, (BadText, at)), text)

    def test_long_numbers(self):
        long = "9" * 400
        self.assertEqual(Script.read(f"times {long}; move -{long} {long}").deeds[1], ("move", -int(long), int(long)))
        self.assertEqual(Script.read(f"lay {long},0,d:-{long}").deeds, (("lay", Sheet.dot(int(long), 0, ink=-int(long))),))
        for text in ("times 1" + long, "move 0 1" + long, "move 1" + long + " 0", "turn 1" + long):
            self.assertEqual(refusal(self, BadLine, Script.read, "turn 1; " + text).at, 1)
        error = refusal(self, BadLine, Script.read, f"turn 1; lay 0,0,d:1 1,0,d:1{long}")
        self.assertEqual((error.at, cause_of(error)), (1, (BadText, 1)))

    def test_number_of_deeds(self):
        self.assertEqual(len(Script.read("; ".join(["turn 1"] * 40)).deeds), 40)
        for many in (41, 100):
            self.assertEqual(refusal(self, TooHeavy, Script.read, "; ".join(["turn 1"] * many)).weight, many)
        self.assertEqual(refusal(self, BadLine, Script.read, "; ".join(["turn 1"] * 41 + ["turn 24"])).at, 41)

    def test_read_scripts_are_done(self):
        script = Script.read("lay 0,0,d:1; sweep 0,0,e:1; fold 3; times -2; move 1 0; turn 12")
        for sheet in SHEETS:
            expected = sheet
            for deed in script:
                expected = by_words(deed, expected)
            self.assertEqual(script(sheet), expected)


if __name__ == "__main__":
    unittest.main()
