"""Points 42 and 43: rows, their ends and their erasers."""

import random
import unittest

from sixviews.errors import BadKind, NoEraser, TooHeavy, UnlikeEuler
from sixviews.rows import Row, row_eraser
from tests.helpers import BIG, refusal

FAR = 10 ** 40 - 1


def some_marks(seed, many=6, size=4):
    """Marks of a row, the same ones for the same seed."""
    dice = random.Random(seed)
    return [(dice.randint(-size, size), dice.choice("dg"), dice.choice([-2, -1, 1, 2, 3])) for _ in range(many)]


ROWS = [Row()] + [Row(some_marks(seed)) for seed in range(10)]


def told(row):
    """The row as a dict from marks to inks."""
    return {(t, kind): ink for t, kind, ink in row}


def added(marks):
    """The inks of the marks, added, as a dict without those that are 0."""
    sums = {}
    for t, kind, ink in marks:
        sums[t, kind] = sums.get((t, kind), 0) + ink
    return {mark: ink for mark, ink in sums.items() if ink}


def swept_marks(t, kind, u, other):
    """The sweep of two marks, by point 42."""
    if kind == "d" and other == "d":
        return [(t + u, "d", 1)]
    if kind == "g" and other == "g":
        return [(t + u, "g", -1), (t + u + 1, "d", -1), (t + u + 1, "g", -1)]
    return [(t + u, "g", 1)]


def ends_of(row):
    """The ends of a row, by point 43, as two dicts."""
    ahead, behind = {}, {}
    for t, kind, ink in row:
        if kind == "d":
            ahead[t] = ahead.get(t, 0) + ink
            behind[t] = behind.get(t, 0) + ink
        else:
            ahead[t] = ahead.get(t, 0) - ink
            behind[t + 1] = behind.get(t + 1, 0) - ink
    return [{t: ink for t, ink in end.items() if ink} for end in (ahead, behind)]


def end_product(first, second):
    """The product of two ends, lists of tuples (t, ink), as such a list."""
    sums = {}
    for t, ink in first:
        for u, factor in second:
            sums[t + u] = sums.get(t + u, 0) + ink * factor
    return sorted((t, ink) for t, ink in sums.items() if ink)


class MarksTest(unittest.TestCase):
    def test_marks(self):
        row = Row(marks=[(3, "g", 2), (0, "d", 1), (3, "d", -1), (0, "g", 4), (-2, "g", BIG)])
        self.assertEqual(list(row), [(-2, "g", BIG), (0, "d", 1), (0, "g", 4), (3, "d", -1), (3, "g", 2)])
        self.assertEqual([row[3, "g"], row[3, "d"], row[2, "d"], row[FAR, "g"]], [2, -1, 0, 0])
        self.assertEqual(Row.MOST, 1000)

    def test_inks_of_the_same_mark_are_added(self):
        self.assertEqual(list(Row([(1, "d", 2), (1, "g", 5), (1, "d", -2), (1, "g", 5)])), [(1, "g", 10)])
        for seed in range(5):
            marks = some_marks(seed, 20, 2)
            self.assertEqual(told(Row(marks)), added(marks))
            self.assertEqual(Row(tuple(marks)), Row(marks))

    def test_the_list_is_copied(self):
        marks = [(1, "d", 2)]
        row = Row(marks)
        marks.append((2, "d", 2))
        self.assertEqual(list(row), [(1, "d", 2)])

    def test_kinds_that_there_are_not(self):
        for kind in ("e", "", "D", "dg", "n"):
            marks = [(0, "d", 1), (0, kind, 1), (0, "x", 1)]
            self.assertEqual(refusal(self, BadKind, Row, marks).kind, kind)
            row = Row([(0, "d", 1)])
            self.assertEqual(refusal(self, BadKind, lambda: row[0, kind]).kind, kind)
            self.assertEqual(refusal(self, BadKind, lambda: row[5, kind]).kind, kind)
            self.assertEqual(list(row), [(0, "d", 1)])

    def test_counts(self):
        for row in ROWS:
            dots = sum(ink for _, kind, ink in row if kind == "d")
            gaps = sum(ink for _, kind, ink in row if kind == "g")
            self.assertEqual((row.dots, row.gaps, row.euler, row.many), (dots, gaps, dots - gaps, len(list(row))))
        self.assertEqual(Row([(0, "g", FAR), (FAR, "d", -FAR)]).euler, -2 * FAR)

    def test_equality_and_truth(self):
        row = Row([(0, "d", 1), (1, "g", 2)])
        self.assertIs(row == Row([(1, "g", 2), (0, "d", 1)]), True)
        self.assertIs(row != Row([(1, "g", 2), (0, "d", 1)]), False)
        for other in (Row([(0, "d", 1)]), Row(), list(row), tuple(row), None, 0, "blank"):
            self.assertIs(row == other, False)
            self.assertIs(row != other, True)
        self.assertEqual([bool(row), bool(Row()), bool(row - row)], [True, False, False])


class SumsAndSweepsTest(unittest.TestCase):
    def test_sums_and_multiples(self):
        for first in ROWS:
            for second in ROWS:
                self.assertEqual(told(first + second), added(list(first) + list(second)))
                self.assertEqual((first - second) + second, first)
            self.assertEqual(told(-first), {mark: -ink for mark, ink in told(first).items()})
            for n in (0, 1, -3, FAR):
                self.assertEqual(told(first * n), {mark: ink * n for mark, ink in told(first).items() if n})
                self.assertEqual(n * first, first * n)

    def test_single_marks(self):
        for kind in "dg":
            for other in "dg":
                found = Row([(BIG, kind, 2)]) * Row([(-3, other, FAR)])
                expected = [(t, what, ink * 2 * FAR) for t, what, ink in swept_marks(BIG, kind, -3, other)]
                self.assertEqual(told(found), added(expected))

    def test_sweeps(self):
        for first in ROWS:
            for second in ROWS:
                expected = [
                    (v, what, sign * ink * factor)
                    for t, kind, ink in first
                    for u, other, factor in second
                    for v, what, sign in swept_marks(t, kind, u, other)
                ]
                self.assertEqual(told(first * second), added(expected))
                self.assertEqual(first * second, second * first)
                self.assertEqual((first * second).euler, first.euler * second.euler)
            self.assertEqual(first * Row([(0, "d", 1)]), first)

    def test_heavy_sweeps(self):
        first, second = Row([(2 * t, "d", 1) for t in range(50)]), Row([(100 * t, "g", 1) for t in range(80)])
        self.assertEqual((first * second).gaps, 4000)
        third = Row([(t, "gd"[t % 2], 1) for t in range(81)])
        before = [list(first), list(third)]
        self.assertEqual(refusal(self, TooHeavy, lambda: first * third).weight, 4050)
        self.assertEqual(refusal(self, TooHeavy, lambda: third * first).weight, 4050)
        self.assertEqual(refusal(self, TooHeavy, lambda: Row([(t, "d", 1) for t in range(4001)]) * first).weight, 200050)
        self.assertEqual([list(first), list(third)], before)
        self.assertEqual((Row([(t, "d", 1) for t in range(4000)]) * Row([(0, "d", 1)])).many, 4000)
        self.assertEqual(
            refusal(self, TooHeavy, lambda: Row([(t, "d", 1) for t in range(4001)]) * Row([(0, "d", 1)])).weight, 4001,
        )


class MovesTest(unittest.TestCase):
    def test_moved(self):
        for row in ROWS:
            for by in (0, -3, FAR):
                self.assertEqual(told(row.moved(by=by)), {(t + by, kind): ink for t, kind, ink in row})

    def test_flipped(self):
        self.assertEqual(list(Row([(2, "d", 5), (2, "g", 7)]).flipped()), [(-3, "g", 7), (-2, "d", 5)])
        for row in ROWS:
            expected = {(-t if kind == "d" else -t - 1, kind): ink for t, kind, ink in row}
            self.assertEqual(told(row.flipped()), expected)
            self.assertEqual(row.flipped().flipped(), row)
            self.assertEqual(row.flipped().ahead(), sorted((-t, ink) for t, ink in row.behind()))

    def test_inside_out(self):
        self.assertEqual(list(~Row([(BIG, "d", 5)])), [(BIG, "d", 5)])
        self.assertEqual(list(~Row([(4, "g", 5)])), [(4, "d", -5), (4, "g", -5), (5, "d", -5)])
        for row in ROWS:
            self.assertEqual(~~row, row)
            self.assertEqual(((~row).ahead(), (~row).behind()), (row.behind(), row.ahead()))
            for other in ROWS:
                self.assertEqual(~(row * other), ~row * ~other)
                self.assertEqual(~(row + other), ~row + ~other)


class EndsTest(unittest.TestCase):
    def test_definition(self):
        for row in ROWS:
            ahead, behind = ends_of(row)
            self.assertEqual(row.ahead(), sorted(ahead.items()))
            self.assertEqual(row.behind(), sorted(behind.items()))
            self.assertEqual([sum(ahead.values()), sum(behind.values())], [row.euler] * 2)
            self.assertIs(type(row.ahead()), list)
            row.ahead().clear()
            self.assertEqual(row.ahead(), sorted(ahead.items()))

    def test_sweeps(self):
        for first in ROWS:
            for second in ROWS:
                both = first * second
                self.assertEqual(both.ahead(), end_product(first.ahead(), second.ahead()))
                self.assertEqual(both.behind(), end_product(first.behind(), second.behind()))

    def test_rows_made_of_two_ends(self):
        for row in ROWS:
            self.assertEqual(Row.of_ends(row.ahead(), row.behind()), row)
            self.assertEqual(Row.of_ends(behind=tuple(row.behind()[::-1]), ahead=row.ahead()), row)

    def test_inks_of_the_same_t_are_added(self):
        row = Row.of_ends([(3, 1), (0, 5), (3, 1), (0, -5)], [(1, 1), (1, 1), (9, 0)])
        self.assertEqual((row.ahead(), row.behind()), ([(3, 2)], [(1, 2)]))
        self.assertEqual(list(row), [(1, "d", 2), (1, "g", 2), (2, "d", 2), (2, "g", 2), (3, "d", 2)])

    def test_inks_of_the_two_ends_are_not_added(self):
        # At 0 and at 1000 both ends have ink, and their sums there are 0.
        row = Row.of_ends([(0, 1), (1000, -1)], [(0, -1), (1000, 1)])
        self.assertEqual((row.ahead(), row.behind()), ([(0, 1), (1000, -1)], [(0, -1), (1000, 1)]))
        error = refusal(self, TooHeavy, Row.of_ends, [(0, 1), (1001, -1)], [(0, -1), (1001, 1)])
        self.assertEqual(error.weight, 1001)

    def test_blank_ends(self):
        self.assertEqual(Row.of_ends([], []), Row())
        self.assertEqual(Row.of_ends([(0, 1), (0, -1)], [(FAR, 0), (-FAR, 0)]), Row())
        one_sided = Row([(BIG, "g", -FAR), (BIG + 1, "d", -FAR)])
        self.assertEqual(Row.of_ends([(BIG, FAR), (BIG + 1, -FAR)], []), one_sided)

    def test_unlike_sums(self):
        for ahead, behind in (([(0, 1)], []), ([(0, 2)], [(0, 1)]), ([(FAR, 1)], [(-FAR, 2)])):
            self.assertEqual(refusal(self, UnlikeEuler, Row.of_ends, ahead, behind).at, 1)

    def test_ends_far_apart(self):
        for low, high in ((0, 1000), (FAR, FAR + 1000), (-1000, 0)):
            self.assertEqual(Row.of_ends([(high, 1)], [(low, 1)]).many, 2001)
            self.assertEqual(Row.of_ends([(low, 1)], [(high, 1)]).many, 1999)
        for ahead, behind, length in (
            ([(1001, 1)], [(0, 1)], 1001), ([(0, 1)], [(1001, 1)], 1001), ([(0, 1), (1001, -1)], [], 1001),
            ([], [(0, 3), (-1001, -3)], 1001), ([(FAR, 1)], [(-FAR, 1)], 2 * FAR),
        ):
            self.assertEqual(refusal(self, TooHeavy, Row.of_ends, ahead, behind).weight, length)
        # Inks that add up to 0 do not count for the length.
        far = [(FAR, 1), (0, 1), (FAR, -1)]
        self.assertEqual(Row.of_ends(far, [(0, 1), (-FAR, 0)]), Row([(0, "d", 1)]))
        self.assertEqual(far, [(FAR, 1), (0, 1), (FAR, -1)])


class StretchTest(unittest.TestCase):
    def test_example(self):
        self.assertEqual(
            [list(Row.stretch(2, 0)), Row.stretch(0, 1).ahead(), Row.stretch(0, 1).behind()],
            [[(0, "g", -1), (1, "d", -1), (1, "g", -1)], [(1, 1)], [(0, 1)]],
        )

    def test_upwards(self):
        for low, high in ((0, 0), (-2, 3), (FAR, FAR + 4)):
            marks = [(t, "d", 1) for t in range(low, high + 1)] + [(t, "g", 1) for t in range(low, high)]
            self.assertEqual(Row.stretch(low=low, high=high), Row(marks))

    def test_ends(self):
        for low in range(-3, 4):
            for high in range(-3, 4):
                row = Row.stretch(low, high)
                self.assertEqual((row.ahead(), row.behind(), row.euler), ([(high, 1)], [(low, 1)], 1))
                self.assertEqual(row * Row.stretch(2, -1), Row.stretch(low + 2, high - 1))

    def test_lengths(self):
        self.assertEqual(Row.stretch(-500, 500).many, 2001)
        self.assertEqual(Row.stretch(500, -500).many, 1999)
        for low, high, length in ((0, 1001, 1001), (1001, 0, 1001), (-FAR, FAR, 2 * FAR), (FAR, -FAR, 2 * FAR)):
            self.assertEqual(refusal(self, TooHeavy, Row.stretch, low, high).weight, length)


class RowEraserTest(unittest.TestCase):
    def test_stretches(self):
        for low, high in ((0, 0), (2, 5), (5, 2), (FAR, FAR + 1), (0, 1000), (1000, 0)):
            for sign in (1, -1):
                row = Row.stretch(low, high) * sign
                found = row_eraser(row=row)
                self.assertEqual(found, Row.stretch(-low, -high) * sign)
                if row.many * found.many <= 4000:
                    self.assertEqual(row * found, Row([(0, "d", 1)]))

    def test_gaps(self):
        self.assertEqual(list(row_eraser(Row([(4, "g", 1)]))), [(-5, "d", -1), (-5, "g", -1), (-4, "d", -1)])

    def test_rows_without_erasers(self):
        cases = [
            (Row(), 0), (Row([(0, "d", 2)]), 0), (Row([(0, "d", 1), (1, "d", 1)]), 0), (Row([(0, "g", -3)]), 0),
            (Row.of_ends([(0, 1)], [(0, 2), (1, -1)]), 1), (Row.of_ends([(0, -1)], [(5, 1), (6, -2)]), 1),
            (Row.of_ends([(3, 1), (4, 1), (5, -1)], [(0, 1)]), 0), (Row.of_ends([(3, 1)], [(2, 1), (3, -1), (4, 1)]), 1),
        ]
        for row, view in cases:
            before = list(row)
            self.assertEqual(refusal(self, NoEraser, row_eraser, row).view, view)
            self.assertEqual(list(row), before)

    def test_long_rows(self):
        row = Row.stretch(0, 1000) * Row.stretch(0, 0) + Row.stretch(1000, 1700) - Row([(1000, "d", 1)])
        self.assertEqual((row.ahead(), row.behind()), ([(1700, 1)], [(0, 1)]))
        self.assertEqual(refusal(self, TooHeavy, row_eraser, row).weight, 1700)
        # That there is no eraser comes first.
        self.assertEqual(refusal(self, NoEraser, row_eraser, row * 2).view, 0)


if __name__ == "__main__":
    unittest.main()
