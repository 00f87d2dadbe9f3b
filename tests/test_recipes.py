"""Point 18: recipes."""

import itertools
import unittest

from sixviews.errors import BadCount, BadLength, NotDrawn
from sixviews.pens import Pen
from sixviews.recipes import cooked, recipe, recipes
from tests.helpers import BIG, UNIT_REACHES, reaches_of_recipe, refusal, some_recipes


def same_up_to_a_move(first, second):
    """True if the two pens have the same sides."""
    return first.sides() == second.sides()


class RecipeTest(unittest.TestCase):
    def test_example(self):
        self.assertEqual(recipe(Pen.around([(0, 0), (2, 0), (0, 1)])), (1, 0, 0, 1, 0))

    def test_units(self):
        self.assertEqual(recipe(Pen.unit("d")), (0, 0, 0, 0, 0))
        for at, kind in enumerate("enwuv"):
            self.assertEqual(recipe(Pen(UNIT_REACHES[kind])), tuple(int(k == at) for k in range(5)))

    def test_recipes_of_drawn_pens(self):
        for counts in some_recipes():
            pen = Pen(reaches_of_recipe(counts)).moved(3, -7)
            found = recipe(pen)
            self.assertIsInstance(found, tuple)
            both = min(counts[3:])
            self.assertEqual(found, tuple(
                count + both if at < 3 else count - both for at, count in enumerate(counts)
            ))
            self.assertTrue(same_up_to_a_move(cooked(found), pen))

    def test_large_pens(self):
        counts = (BIG, 0, 3, 0, 10 ** 39)
        self.assertEqual(recipe(cooked(counts).moved(BIG, BIG)), counts)
        self.assertEqual(recipe(Pen.even(BIG)), (BIG, BIG, BIG, 0, 0))

    def test_crossed_pens(self):
        self.assertEqual(refusal(self, NotDrawn, recipe, Pen([0, 1, 0, 0, 0, 0])).side, 1)
        self.assertEqual(refusal(self, NotDrawn, recipe, Pen.even(-BIG)).side, 0)


class CookedTest(unittest.TestCase):
    def test_pens(self):
        for counts in some_recipes():
            self.assertEqual(cooked(list(counts)).reaches, reaches_of_recipe(counts))
        self.assertEqual(cooked(counts=(0, 0, 0, 0, 0)).reaches, (0,) * 6)
        self.assertEqual(cooked([BIG, 0, 0, 0, 1]).reaches, (BIG + 1, 1, 1, 0, 0, BIG))

    def test_lists_of_another_length(self):
        for counts in ([], [1] * 4, [1] * 6, [-1] * 6):
            self.assertEqual(refusal(self, BadCount, cooked, counts).count, len(counts))

    def test_items_below_0(self):
        for at in range(5):
            counts = [0] * at + [-1] * (5 - at)
            self.assertEqual(refusal(self, BadLength, cooked, counts).at, at)
            self.assertEqual(counts, [0] * at + [-1] * (5 - at))


class RecipesTest(unittest.TestCase):
    def test_all_recipes(self):
        for counts in some_recipes():
            pen = Pen(reaches_of_recipe(counts)).moved(-2, 1)
            most = pen.rim
            every = [
                other for other in itertools.product(range(most + 1), repeat=5)
                if Pen(reaches_of_recipe(other)).sides() == pen.sides()
            ] if most <= 4 else None
            found = list(recipes(pen))
            self.assertEqual(found[0], recipe(pen))
            self.assertEqual(found, sorted(found, key=lambda other: other[3]))
            for number, other in enumerate(found):
                self.assertIsInstance(other, tuple)
                self.assertEqual(other[3], found[0][3] + number)
                self.assertTrue(same_up_to_a_move(cooked(other), pen))
            self.assertEqual(min(found[-1][:3]), 0)
            if every is not None:
                self.assertEqual(sorted(found), sorted(every))

    def test_of_a_hexagon(self):
        self.assertEqual(list(recipes(Pen.even(1))), [(1, 1, 1, 0, 0), (0, 0, 0, 1, 1)])

    def test_first_items_of_very_many(self):
        found = list(itertools.islice(recipes(Pen.even(BIG)), 3))
        self.assertEqual(found, [(BIG - k, BIG - k, BIG - k, k, k) for k in range(3)])
        for counts in recipes(Pen.even(BIG)):
            self.assertEqual(counts[3], 0)
            break

    def test_crossed_pens(self):
        crossed = recipes(pen=Pen([0, 0, 1, 0, 0, 0]))
        self.assertEqual(refusal(self, NotDrawn, next, crossed).side, 2)


if __name__ == "__main__":
    unittest.main()
