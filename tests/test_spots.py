"""Points 7 and 12: heaps of spots."""

import unittest

from sixviews.errors import BadView, TooHeavy
from sixviews.spots import Spots
from sixviews.turnings import Turning
from tests.helpers import BIG, LINES, heap_product, refusal, some_spots

HEAPS = [Spots(some_spots(seed)) for seed in range(8)]


def row_of_spots(many, x=0):
    """A heap of so many spots."""
    return Spots([(x + at, 0, 1) for at in range(many)])


def as_dict(spots):
    """The inks of the places of the heap."""
    return {(x, y): ink for x, y, ink in spots}


class SpotsTest(unittest.TestCase):
    def test_rows_are_added_and_sorted(self):
        spots = Spots([(1, 0, 2), (0, 5, 3), (1, 0, 2), (-1, 9, 4), (-1, 9, -4), (0, -5, 1), (7, 7, 0)])
        self.assertEqual(list(spots), [(0, -5, 1), (0, 5, 3), (1, 0, 4)])
        self.assertEqual([spots.many, spots.total], [3, 8])

    def test_blank_heaps(self):
        for blank in (Spots(), Spots([]), Spots(rows=()), Spots([(0, 0, 0)]), Spots([(1, 1, 4), (1, 1, -4)])):
            self.assertEqual(list(blank), [])
            self.assertIs(bool(blank), False)
            self.assertEqual([blank.many, blank.total, blank.single(), blank.box()], [0, 0, None, None])
            for seam in range(6):
                self.assertEqual([blank.sums(seam), blank.moment(seam)], [[], 0])
        self.assertIs(bool(Spots([(0, 0, -1)])), True)
        # Inks that cancel in the total do not make a heap blank.
        self.assertIs(bool(Spots([(0, 0, -1), (1, 0, 1)])), True)

    def test_ink_at_a_place(self):
        spots = Spots([(BIG, -BIG, 10 ** 40 - 1), (0, 0, -2)])
        self.assertEqual([spots[BIG, -BIG], spots[0, 0], spots[0, 1]], [10 ** 40 - 1, -2, 0])

    def test_most(self):
        self.assertEqual(Spots.MOST, 4000)

    def test_sums_and_differences(self):
        for first in HEAPS:
            for second in HEAPS:
                for x in range(-3, 4):
                    for y in range(-3, 4):
                        self.assertEqual((first + second)[x, y], first[x, y] + second[x, y])
                        self.assertEqual((first - second)[x, y], first[x, y] - second[x, y])
                self.assertEqual(second + (first - second), first)
            self.assertFalse(first - first)

    def test_multiples_from_both_sides(self):
        for spots in HEAPS:
            for n in (0, 1, -1, 5, BIG):
                expected = [(x, y, ink * n) for x, y, ink in spots if n]
                self.assertEqual(list(spots * n), expected)
                self.assertEqual(list(n * spots), expected)
            self.assertEqual(-spots, spots * -1)

    def test_products(self):
        for first in HEAPS:
            for second in HEAPS:
                self.assertEqual(as_dict(first * second), heap_product(as_dict(first), as_dict(second)))
        self.assertEqual(list(Spots([(1, 2, 3)]) * Spots([(10, 20, -4), (BIG, 0, BIG)])), [
            (11, 22, -12), (BIG + 1, 2, 3 * BIG),
        ])
        self.assertEqual(list(Spots([(0, 0, 1), (1, 0, 1)]) * Spots([(0, 0, 1), (1, 0, -1)])), [(0, 0, 1), (2, 0, -1)])

    def test_weight_of_4000(self):
        self.assertEqual((row_of_spots(4000) * row_of_spots(1)).many, 4000)
        self.assertEqual((row_of_spots(50) * row_of_spots(80)).many, 129)
        for first, second in ((4001, 1), (1, 4001), (58, 69)):
            error = refusal(self, TooHeavy, lambda a, b: a * b, row_of_spots(first), row_of_spots(second))
            self.assertEqual(error.weight, first * second)

    def test_other_kinds_of_operands(self):
        spots = Spots([(0, 0, 1)])
        for wrong in (lambda: spots + 1, lambda: spots - 1, lambda: spots * "2", lambda: "2" * spots):
            with self.assertRaises(TypeError):
                wrong()
        self.assertEqual(list(spots), [(0, 0, 1)])

    def test_equality(self):
        first = Spots([(0, 0, 1), (1, 0, 2)])
        self.assertTrue(first == Spots([(1, 0, 2), (0, 0, 1)]))
        self.assertFalse(first != Spots([(1, 0, 2), (0, 0, 1)]))
        for other in (Spots(), first * 2, first.moved(0, 1), Spots([(0, 0, 1)])):
            self.assertFalse(first == other)
            self.assertTrue(first != other)

    def test_moved(self):
        for spots in HEAPS:
            self.assertEqual(list(spots.moved(4, -7)), [(x + 4, y - 7, ink) for x, y, ink in spots])
            self.assertEqual(spots.moved(dy=BIG, dx=-BIG).moved(BIG, -BIG), spots)

    def test_turned(self):
        for code in range(24):
            turning = Turning.coded(code)
            for spots in HEAPS:
                carried = sorted(turning.place_to((x, y)) + (ink,) for x, y, ink in spots)
                self.assertEqual(list(spots.turned(turning)), carried)
                self.assertEqual(spots.turned(turning), spots.turned(Turning.coded((code + 12) % 24)))

    def test_sums_on_lines(self):
        for seam in range(6):
            for spots in HEAPS:
                sums = {}
                for x, y, ink in spots:
                    line = LINES[seam](x, y)
                    sums[line] = sums.get(line, 0) + ink
                self.assertEqual(spots.sums(seam), sorted((line, ink) for line, ink in sums.items() if ink))

    def test_sums_that_cancel_are_left_out(self):
        spots = Spots([(0, 1, 5), (1, 0, -5), (BIG, 0, 1)])
        self.assertEqual(spots.sums(0), [(BIG, 1)])
        self.assertEqual(spots.sums(1), [(0, -4), (1, 5)])
        self.assertEqual(spots.sums(seam=2), [(-BIG, 1), (-1, -5), (0, 5)])

    def test_moments(self):
        for seam in range(6):
            for spots in HEAPS:
                self.assertEqual(spots.moment(seam), sum(ink * LINES[seam](x, y) for x, y, ink in spots))
        self.assertEqual(Spots([(BIG, BIG, BIG)]).moment(3), -2 * BIG * BIG)

    def test_seams_that_there_are_not(self):
        for seam in (-1, 6, BIG):
            for spots in (Spots(), HEAPS[0]):
                self.assertEqual(refusal(self, BadView, spots.sums, seam).view, seam)
                self.assertEqual(refusal(self, BadView, spots.moment, seam).view, seam)

    def test_single(self):
        self.assertEqual(Spots([(3, 4, 5)]).single(), (3, 4, 5))
        self.assertEqual(Spots([(3, 4, 5), (3, 4, -6)]).single(), (3, 4, -1))
        self.assertIsNone(Spots([(3, 4, 5), (0, 0, 1)]).single())

    def test_box(self):
        self.assertEqual(Spots([(3, 4, 5)]).box(), (3, 4, 3, 4))
        self.assertEqual(Spots([(3, -9, 1), (-2, 7, 1), (0, BIG, 1)]).box(), (-2, -9, 3, BIG))

    def test_returned_lists_are_new(self):
        spots = Spots([(0, 0, 1)])
        spots.sums(0).clear()
        list(spots).clear()
        self.assertEqual(spots.sums(0), [(0, 1)])

    def test_passed_lists_are_copied(self):
        rows = [(0, 0, 1), (0, 0, 1)]
        spots = Spots(rows)
        self.assertEqual(rows, [(0, 0, 1), (0, 0, 1)])
        rows.clear()
        self.assertEqual(list(spots), [(0, 0, 2)])

    def test_refused_calls_change_nothing(self):
        spots = row_of_spots(64)
        before = list(spots)
        refusal(self, TooHeavy, lambda: spots * spots)
        refusal(self, BadView, spots.sums, 6)
        refusal(self, BadView, spots.moment, -1)
        self.assertEqual(list(spots), before)


if __name__ == "__main__":
    unittest.main()
