"""The last sentence of point 26: the outline."""

import unittest

from sixviews.pens import Pen, inner_cells
from sixviews.rims import outline
from sixviews.sheets import Sheet
from tests.helpers import BIG, faces, reaches_of_recipe, rows_of_pen, some_recipes, some_rows


class OutlineTest(unittest.TestCase):
    def test_cells(self):
        self.assertEqual(outline(Sheet.dot(3, 4)), Sheet())
        self.assertEqual(outline(Sheet.of((0, 0, "e"))).text(), "0,0,d:1 0,0,e:2 1,0,d:1")
        triangle = (2, -1, "v")
        border = [cell for cell in faces(triangle) if cell != triangle]
        self.assertEqual(outline(Sheet.of(triangle)), -Sheet.of(*border))

    def test_definition(self):
        for seed in range(6):
            sheet = Sheet(some_rows(seed))
            turned = Sheet([
                (x, y, kind, -ink if row[2] in "enw" else ink)
                for row in sheet
                for ink in [row[3]]
                for x, y, kind in faces(row[:3])
            ])
            self.assertEqual(outline(sheet=sheet), sheet - turned)
            self.assertEqual(outline(sheet), sheet + turned * -1)

    def test_sheets_of_pens(self):
        # Inside out, a pen of triangles keeps the ink 1 on the cells inside it alone.
        for counts in some_recipes():
            pen = Pen(reaches_of_recipe(counts))
            if pen.dimension() == 2:
                sheet = Sheet(rows_of_pen(pen.reaches))
                self.assertEqual(outline(sheet), sheet - Sheet.of(*inner_cells(pen)))

    def test_blank_and_large(self):
        self.assertEqual(outline(Sheet()), Sheet())
        self.assertEqual(list(outline(Sheet([(BIG, -BIG, "n", BIG)]))), [
            (BIG, -BIG, "d", BIG), (BIG, -BIG, "n", 2 * BIG), (BIG, 1 - BIG, "d", BIG),
        ])


if __name__ == "__main__":
    unittest.main()
