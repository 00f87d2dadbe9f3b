"""Point 19: the mixed number."""

import unittest

from sixviews.errors import NotDrawn
from sixviews.mixed import mixed, same_ratio, spare
from sixviews.pens import Pen
from tests.helpers import BIG, reaches_of_recipe, refusal, some_recipes

DRAWN = [Pen(reaches_of_recipe(counts)) for counts in some_recipes()[::3]]
CROSSED = [Pen([0, 5, 0, 0, 0, 0]), Pen.even(-1), Pen([1, 2, 3, 4, 5, 9])]


class MixedTest(unittest.TestCase):
    def test_example(self):
        pen = Pen.around([(0, 0), (2, 0), (0, 1)])
        self.assertEqual([mixed(pen, Pen.even(1)), spare(pen, Pen.even(1))], [5, 7])

    def test_is_the_sum_of_sides_times_reaches(self):
        first, second = Pen([1, 2, 3, 4, 5, 9]), Pen([1, 10, 100, 1000, 10000, 100000])
        self.assertEqual(first.sides(), (10, 2, 3, 4, 8, -3))
        self.assertEqual(mixed(first, second), 10 + 20 + 300 + 4000 + 80000 - 300000)

    def test_order_and_moves(self):
        for first in DRAWN + CROSSED:
            for second in DRAWN + CROSSED:
                number = mixed(first, second)
                self.assertEqual(mixed(second=first, first=second), number)
                self.assertEqual(mixed(first.moved(3, -8), second.moved(BIG, 1)), number)

    def test_area_of_a_sum(self):
        for first in DRAWN + CROSSED:
            self.assertEqual(mixed(first, first), first.area)
            for second in DRAWN + CROSSED:
                self.assertEqual((first + second).area, first.area + second.area + 2 * mixed(first, second))

    def test_large_pens(self):
        self.assertEqual(mixed(Pen.even(BIG), Pen.even(10 ** 39)), 6 * BIG * 10 ** 39)

    def test_spare(self):
        for first in DRAWN:
            for second in DRAWN:
                number = spare(first, second)
                self.assertEqual(number, mixed(first, second) ** 2 - first.area * second.area)
                self.assertGreaterEqual(number, 0)
                if first.area > 0 and second.area > 0:
                    self.assertIs(number == 0, same_ratio(first, second))

    def test_same_ratio(self):
        for first in DRAWN:
            self.assertIs(same_ratio(first, first * 3 + Pen.even(0).moved(4, 4)), True)
            for second in DRAWN:
                sides, others = first.sides(), second.sides()
                alike = all(sides[i] * others[j] == sides[j] * others[i] for i in range(6) for j in range(6))
                self.assertIs(same_ratio(first, second), alike)
        self.assertIs(same_ratio(Pen.even(BIG), Pen.even(1)), True)
        self.assertIs(same_ratio(Pen.unit("e"), Pen.unit("n")), False)
        self.assertIs(same_ratio(Pen.unit("d"), Pen.unit("n")), True)

    def test_rim_and_area(self):
        for pen in DRAWN:
            self.assertGreaterEqual(pen.rim ** 2, 6 * pen.area)
            self.assertIs(pen.rim ** 2 == 6 * pen.area, len(set(pen.sides())) == 1)

    def test_crossed_pens(self):
        drawn = Pen.even(1)
        for call in (spare, same_ratio):
            self.assertEqual(refusal(self, NotDrawn, call, CROSSED[0], drawn).side, 1)
            self.assertEqual(refusal(self, NotDrawn, call, drawn, CROSSED[2]).side, 5)
            self.assertEqual(refusal(self, NotDrawn, call, CROSSED[0], CROSSED[2]).side, 1)
            self.assertEqual(refusal(self, NotDrawn, call, CROSSED[2], CROSSED[0]).side, 5)
        self.assertEqual(drawn.reaches, (1,) * 6)


if __name__ == "__main__":
    unittest.main()
