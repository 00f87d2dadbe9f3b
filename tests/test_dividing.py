"""Points 13 and 14: the division of heaps."""

import unittest

from sixviews.dividing import divided
from sixviews.errors import NoSpots, TooHeavy, Undivided
from sixviews.spots import Spots
from tests.helpers import BIG, refusal, some_spots

HEAPS = [Spots(some_spots(seed, 5, 2)) for seed in range(12)]


def quotient_box(spots, divisor):
    """The quotient box of two heaps that are not blank."""
    return [mine - its for mine, its in zip(spots.box(), divisor.box())]


class DividedTest(unittest.TestCase):
    def check_undivided(self, spots, divisor):
        """The division is refused, with two heaps as point 14 says; returns the error."""
        error = refusal(self, Undivided, divided, spots, divisor)
        self.assertEqual(error.quotient * divisor + error.rest, spots)
        self.assertTrue(error.rest)
        x, y, ink = list(error.rest)[-1]
        last_x, last_y, lead = list(divisor)[-1]
        left, bottom, right, top = quotient_box(spots, divisor)
        place = (x - last_x, y - last_y)
        for a, b, _ in error.quotient:
            self.assertGreater((a, b), place)
            self.assertTrue(left <= a <= right and bottom <= b <= top)
        inside = left <= place[0] <= right and bottom <= place[1] <= top
        self.assertTrue(ink % lead != 0 or not inside)
        return error

    def test_example(self):
        spots, divisor = Spots([(0, 0, -1), (2, 0, 1)]), Spots([(0, 0, -1), (1, 0, 1)])
        self.assertEqual(list(divided(spots, divisor)), [(0, 0, 1), (1, 0, 1)])

    def test_products_are_divided(self):
        for first in HEAPS:
            for second in HEAPS:
                self.assertEqual(divided(first * second, second), first)

    def test_large_places_and_inks(self):
        first = Spots([(BIG, -BIG, BIG), (BIG + 1, 3 - BIG, -BIG)])
        second = Spots([(-BIG, 7, 10 ** 40 - 1), (BIG, BIG, 3), (0, 0, -1)])
        self.assertEqual(divided(first * second, second), first)
        self.assertEqual(divided(spots=second * BIG, divisor=second), Spots([(0, 0, BIG)]))

    def test_negative_leading_ink(self):
        divisor = Spots([(0, 0, 1), (1, 0, -2)])
        self.assertEqual(divided(divisor * Spots([(5, 5, -3), (4, 4, 1)]), divisor), Spots([(5, 5, -3), (4, 4, 1)]))

    def test_blank_heap(self):
        for divisor in HEAPS:
            self.assertEqual(divided(Spots(), divisor), Spots())

    def test_blank_divisor(self):
        refusal(self, NoSpots, divided, HEAPS[0], Spots())
        refusal(self, NoSpots, divided, Spots(), Spots())

    def test_heaps_that_cannot_be_divided(self):
        refused = 0
        for first in HEAPS:
            for second in HEAPS:
                product = first * second + Spots([(1, 1, 1)])
                if second.many > 1 and quotient_box(product, second) == quotient_box(first * second, second):
                    self.check_undivided(product, second)
                    refused += 1
        self.assertGreater(refused, 50)

    def test_ink_that_is_not_a_multiple(self):
        error = self.check_undivided(Spots([(0, 0, 4), (1, 0, 3)]), Spots([(0, 0, 2)]))
        self.assertEqual([list(error.quotient), list(error.rest)], [[], [(0, 0, 4), (1, 0, 3)]])
        error = self.check_undivided(Spots([(0, 0, 3), (1, 0, 4)]), Spots([(0, 0, 2)]))
        self.assertEqual([list(error.quotient), list(error.rest)], [[(1, 0, 2)], [(0, 0, 3)]])

    def test_place_outside_of_the_quotient_box(self):
        # Without the box, the division would go on for ever.
        error = self.check_undivided(Spots([(0, 0, 1), (3, 0, 1)]), Spots([(0, 0, 1), (1, 0, 1), (1, 1, 1)]))
        self.assertEqual(list(error.quotient), [])
        self.check_undivided(Spots([(0, 0, 1), (5, 0, 1)]), Spots([(0, 0, 2), (1, 0, 1)]))
        self.check_undivided(Spots([(0, 0, 1), (0, 5, 1)]), Spots([(0, 0, 2), (0, 1, 1)]))
        self.check_undivided(Spots([(0, 0, 1), (2, -2, 5)]), Spots([(0, 0, 1), (1, 1, 1)]))

    def test_quotient_box_of_no_places(self):
        for spots, divisor in (
            (Spots([(0, 0, 1)]), Spots([(0, 0, 1), (1, 0, 1)])),
            (Spots([(0, 0, 1), (1, 0, 1)]), Spots([(0, 0, 1), (0, 1, 1)])),
            (Spots([(0, 0, 1), (BIG, 0, 1)]), Spots([(0, 0, 1), (0, 1, 1)])),
            (Spots([(0, 0, 1)]), Spots([(0, 0, 1), (BIG, BIG, 1)])),
            (Spots([(0, 0, 1), (0, 500, 1)]), Spots([(0, 0, 1), (1, 0, 1)])),
            (Spots([(0, 0, 1), (0, 500, 1)]), Spots([(0, 0, 1), (BIG, 0, 1)])),
        ):
            error = self.check_undivided(spots, divisor)
            self.assertEqual(error.quotient, Spots())
            self.assertEqual(error.rest, spots)

    def test_quotient_box_of_400_places(self):
        one = Spots([(0, 0, 1)])
        square = Spots([(0, 0, 1), (19, 19, 2)])
        self.assertEqual(divided(square, one), square)
        row = Spots([(7, 0, 1), (406, 0, 5)])
        self.assertEqual(divided(row, one), row)
        all_places = Spots([(x, y, x + y + 1) for x in range(20) for y in range(20)])
        divisor = Spots([(0, 0, 1), (1, 3, -1), (2, 0, 1)])
        self.assertEqual(divided(all_places * divisor, divisor), all_places)

    def test_quotient_box_of_more_places(self):
        one = Spots([(5, 5, 1)])
        for rows, places in (
            ([(0, 0, 1), (400, 0, 1)], 401),
            ([(0, 0, 1), (0, -400, 1)], 401),
            ([(0, 0, 1), (20, 19, 1)], 420),
            ([(0, 0, 1), (BIG, 1, 1)], 2 * (BIG + 1)),
        ):
            self.assertEqual(refusal(self, TooHeavy, divided, Spots(rows), one).weight, places)

    def test_too_heavy_comes_before_undivided(self):
        spots, divisor = Spots([(0, 0, 1), (500, 0, 1)]), Spots([(0, 0, 2)])
        self.assertEqual(refusal(self, TooHeavy, divided, spots, divisor).weight, 501)
        self.assertEqual([list(spots), list(divisor)], [[(0, 0, 1), (500, 0, 1)], [(0, 0, 2)]])

    def test_products_on_the_way_have_no_bound(self):
        many = Spots([(x, 0, 1) for x in range(1500)])
        few = Spots([(x, 0, 1) for x in range(100)])
        product = Spots([(x, 0, ink) for x, ink in enumerate(
            [sum(0 <= at - k < 1500 for k in range(100)) for at in range(1599)]
        )])
        self.assertEqual(divided(product, many), few)

    def test_a_long_division_that_fails(self):
        divisor = Spots([(0, 0, 1), (1, 0, 1)])
        spots = Spots([(0, 0, -1), (399, 0, 1)])
        error = self.check_undivided(spots, divisor)
        self.assertEqual(error.quotient.many, 399)


if __name__ == "__main__":
    unittest.main()
