"""Points 16 and 21: the sweep of two cells."""

import unittest

from sixviews.errors import BadKind
from sixviews.pairs import swept_cells
from tests.helpers import BIG, KIND_NAMES, heap_product, refusal, view_of

PAIRS = [((1, 2, first), (-3, 1, second)) for first in KIND_NAMES for second in KIND_NAMES]


class SweptCellsTest(unittest.TestCase):
    def test_examples(self):
        stroke = (0, 0, "e")
        self.assertEqual(swept_cells(stroke, stroke), [(0, 0, "e", -1), (1, 0, "d", -1), (1, 0, "e", -1)])
        self.assertEqual(swept_cells(stroke, (0, 0, "n")), [(0, 0, "u", 1), (1, 0, "v", 1), (1, 0, "w", 1)])

    def test_other_shapes(self):
        self.assertEqual(swept_cells((0, 0, "u"), (0, 0, "u")), [
            (0, 0, "u", 1), (0, 1, "e", 1), (0, 1, "u", 1), (1, 0, "n", 1), (1, 0, "u", 1), (1, 0, "v", 1),
            (1, 0, "w", 1),
        ])
        self.assertEqual(swept_cells((0, 0, "u"), (0, 0, "e")), [
            (0, 0, "u", -1), (1, 0, "n", -1), (1, 0, "u", -1), (1, 0, "v", -1), (1, 0, "w", -1),
        ])
        self.assertEqual(len(swept_cells((0, 0, "u"), (0, 0, "v"))), 13)

    def test_a_dot_moves(self):
        for kind in KIND_NAMES:
            self.assertEqual(swept_cells((4, -1, "d"), (2, 2, kind)), [(6, 1, kind, 1)])
            self.assertEqual(swept_cells((2, 2, kind), (4, -1, "d")), [(6, 1, kind, 1)])

    def test_views_are_multiplied(self):
        for cell, other in PAIRS:
            rows = swept_cells(cell, other)
            for view in range(6):
                product = heap_product(view_of([cell + (1,)], view), view_of([other + (1,)], view))
                self.assertEqual(view_of(rows, view), product)

    def test_signs_and_order(self):
        for cell, other in PAIRS:
            rows = swept_cells(cell, other)
            self.assertEqual(rows, sorted(rows))
            self.assertEqual(rows, swept_cells(other=cell, cell=other))
            self.assertEqual(len({row[:3] for row in rows}), len(rows))
            self.assertEqual(len({row[3] for row in rows}), 1)
            self.assertIn(rows[0][3], (1, -1))

    def test_large_places(self):
        near = swept_cells((0, 0, "v"), (0, 0, "w"))
        far = swept_cells((10 ** 40 - 1, BIG, "v"), (10 ** 40 - 1, -1, "w"))
        self.assertEqual(far, [(x + 2 * 10 ** 40 - 2, y + BIG - 1, kind, sign) for x, y, kind, sign in near])

    def test_unknown_kinds(self):
        self.assertEqual(refusal(self, BadKind, swept_cells, (0, 0, "x"), (0, 0, "y")).kind, "x")
        self.assertEqual(refusal(self, BadKind, swept_cells, (0, 0, "d"), (0, 0, "y")).kind, "y")
        self.assertEqual(refusal(self, BadKind, swept_cells, (0, 0, "x"), (0, 0, "d")).kind, "x")


if __name__ == "__main__":
    unittest.main()
