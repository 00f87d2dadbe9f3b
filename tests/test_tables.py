"""Point 52: count tables."""

import unittest

from sixviews.filled import sheet_of
from sixviews.pens import Pen
from sixviews.sheets import Sheet
from sixviews.tables import count_table
from tests.helpers import LINES, corner_set, some_rows

FAR = 10 ** 40 - 1
HEADER = " no   euler      dots   strokes  triangles      rim"


def commas(number):
    """The number with a comma between groups of three digits."""
    digits = str(abs(number))
    groups = []
    while digits:
        groups.insert(0, digits[-3:])
        digits = digits[:-3]
    return ("-" if number < 0 else "") + ",".join(groups)


def line(at, sheet):
    """The line of a sheet, from its counted cells."""
    dots = sum(ink for _, _, kind, ink in sheet if kind == "d")
    strokes = sum(ink for _, _, kind, ink in sheet if kind in "enw")
    triangles = sum(ink for _, _, kind, ink in sheet if kind in "uv")
    rim = sum(
        (-ink if kind in "enw" else ink) * min(LINES[seam](*corner) for corner in corner_set((x, y, kind)))
        for x, y, kind, ink in sheet for seam in range(6)
    )
    texts = [str(at)] + [commas(number) for number in (dots - strokes + triangles, dots, strokes, triangles, rim)]
    return "".join(text.rjust(width) for text, width in zip(texts, (3, 8, 10, 10, 11, 9)))


class CountTableTest(unittest.TestCase):
    def test_header(self):
        self.assertEqual(count_table([]), HEADER)
        words = ["no", "euler", "dots", "strokes", "triangles", "rim"]
        self.assertEqual(HEADER, "".join(word.rjust(width) for word, width in zip(words, (3, 8, 10, 10, 11, 9))))

    def test_example(self):
        self.assertEqual(count_table([sheet_of(Pen.even(1)), Sheet()]), "\n".join([
            HEADER,
            "  0       1         7        12          6        6",
            "  1       0         0         0          0        0",
        ]))

    def test_counted_cells(self):
        sheets = [Sheet(some_rows(seed)) * (-40) ** (seed % 5) for seed in range(12)]
        table = count_table(sheets=sheets)
        self.assertEqual(table, "\n".join([HEADER] + [line(at, sheet) for at, sheet in enumerate(sheets)]))
        self.assertIs(type(table), str)
        self.assertEqual(count_table(tuple(sheets)), table)

    def test_commas(self):
        for ink in (1, 12, 999, 1000, 12345, 123456, 999999, 1000000, -999, -1000, -123456, -1234567):
            sheet = Sheet.dot(ink=ink)
            self.assertEqual(count_table([sheet]).split("\n")[1], line(0, sheet))
        self.assertEqual(
            count_table([Sheet([(0, 0, "u", 1234567), (0, 0, "e", -1000)])]).split("\n")[1],
            "  01,235,567         0    -1,000  1,234,567-3,705,701",
        )

    def test_columns_that_are_full(self):
        # A text that is just as long as its column, and one that is longer, which moves no other column.
        self.assertEqual(count_table([Sheet.dot(ink=-999999)]).split("\n")[1][3:21], "-999,999  -999,999")
        self.assertEqual(count_table([Sheet.dot(ink=9999999)]).split("\n")[1][3:22], "9,999,999 9,999,999")
        for ink in (FAR, -FAR):
            sheet = Sheet([(0, 0, "d", ink), (5, 5, "u", -ink), (1, 1, "n", 2)])
            self.assertEqual(count_table([sheet]).split("\n")[1], line(0, sheet))
        moved = Sheet.of((0, 0, "e")).moved(FAR, FAR)
        self.assertEqual(count_table([moved]).split("\n")[1], line(0, moved))

    def test_many_sheets(self):
        # The index is written without commas, and whole if it is longer than its column.
        lines = count_table([Sheet.dot(1, 0, ink=2)] * 1205).split("\n")
        self.assertEqual(len(lines), 1206)
        self.assertEqual(lines[8], "  7       2         2         0          0        0")
        self.assertEqual(lines[1000], "999       2         2         0          0        0")
        self.assertEqual(lines[1001], "1000       2         2         0          0        0")
        self.assertEqual(lines[1205], line(1204, Sheet.dot(1, 0, ink=2)))

    def test_nothing_changes(self):
        sheets = [Sheet(some_rows(1)), Sheet()]
        before = [list(sheet) for sheet in sheets]
        count_table(sheets)
        self.assertEqual([list(sheet) for sheet in sheets], before)


if __name__ == "__main__":
    unittest.main()
