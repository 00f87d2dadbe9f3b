"""Point 28: paths."""

import itertools
import unittest

from sixviews.errors import BadCount, BadLength, BadText, BadView
from sixviews.paths import Path
from tests.helpers import BIG, STEP, refusal

PATHS = [
    Path(), Path([(0, 3), (3, 5)]), Path([(1, 1)]), Path([(5, 2), (4, 1), (5, 1), (0, 7)]),
    Path([(step, step + 1) for step in range(6)]),
]


def walked(runs):
    """The stations of the runs, walked step by step."""
    places = [(0, 0)]
    for step, length in runs:
        for _ in range(length):
            places.append((places[-1][0] + STEP[step][0], places[-1][1] + STEP[step][1]))
    return places


class RunsTest(unittest.TestCase):
    def test_runs(self):
        self.assertEqual(Path([(0, 3), (3, 5)]).runs, ((0, 3), (3, 5)))
        self.assertEqual(Path(runs=((2, BIG),)).runs, ((2, BIG),))
        self.assertEqual(Path().runs, ())
        self.assertEqual(Path.MOST, 200)

    def test_runs_of_length_0_are_left_out(self):
        self.assertEqual(Path([(0, 0)]).runs, ())
        self.assertEqual(Path([(0, 0), (1, 2), (2, 0), (3, 1), (4, 0)]).runs, ((1, 2), (3, 1)))

    def test_neighbours_with_the_same_step_are_joined(self):
        self.assertEqual(Path([(1, 2), (1, 3), (1, BIG)]).runs, ((1, BIG + 5),))
        self.assertEqual(Path([(1, 2), (2, 0), (1, 3), (0, 1), (1, 1)]).runs, ((1, 5), (0, 1), (1, 1)))
        self.assertEqual(Path([(1, 2), (4, 2), (1, 2)]).runs, ((1, 2), (4, 2), (1, 2)))

    def test_the_list_is_copied(self):
        runs = [(0, 1), (0, 2)]
        path = Path(runs)
        self.assertEqual(runs, [(0, 1), (0, 2)])
        runs.append((1, 1))
        self.assertEqual(path.runs, ((0, 3),))

    def test_runs_that_there_are_not(self):
        for step in (-1, 6, BIG):
            self.assertEqual(refusal(self, BadView, Path, [(0, 1), (step, 1)]).view, step)
            self.assertEqual(refusal(self, BadView, Path, [(step, 0)]).view, step)
        for length in (-1, -BIG):
            self.assertEqual(refusal(self, BadLength, Path, [(0, 1), (1, 0), (0, length)]).at, 2)

    def test_each_run_is_checked_in_order(self):
        self.assertEqual(refusal(self, BadLength, Path, [(0, 1), (1, -1), (9, 1)]).at, 1)
        self.assertEqual(refusal(self, BadView, Path, [(0, 1), (9, -1), (0, -1)]).view, 9)


class WalkTest(unittest.TestCase):
    def test_example(self):
        path = Path([(0, 3), (3, 5)])
        self.assertEqual([path.end, path.knees()], [(-2, 0), [(0, 0), (3, 0), (-2, 0)]])

    def test_end_and_steps(self):
        for path in PATHS:
            self.assertEqual(path.end, walked(path.runs)[-1])
            self.assertEqual(path.steps, len(walked(path.runs)) - 1)
        self.assertEqual(Path([(2, BIG), (0, 1)]).end, (1 - BIG, BIG))
        self.assertEqual(Path([(2, BIG), (0, 1)]).steps, BIG + 1)

    def test_is_straight(self):
        self.assertEqual([path.is_straight for path in PATHS], [True, False, True, False, False])
        self.assertIs(Path([(0, 1), (1, 0), (0, 1)]).is_straight, True)

    def test_knees(self):
        self.assertEqual(Path().knees(), [(0, 0)])
        for path in PATHS:
            places = walked(path.runs)
            at = [sum(length for _, length in path.runs[:many]) for many in range(len(path.runs) + 1)]
            self.assertEqual(path.knees(), [places[number] for number in at])

    def test_knees_are_a_new_list(self):
        path = PATHS[1]
        path.knees().clear()
        self.assertEqual(len(path.knees()), 3)

    def test_stations(self):
        self.assertEqual(list(Path().stations()), [(0, 0)])
        for path in PATHS:
            self.assertEqual(list(path.stations()), walked(path.runs))

    def test_first_stations_of_a_very_long_path(self):
        path = Path([(1, BIG), (0, 1)])
        self.assertEqual(list(itertools.islice(path.stations(), 3)), [(0, 0), (0, 1), (0, 2)])
        for number, place in enumerate(path.stations()):
            if number == 5:
                self.assertEqual(place, (0, 5))
                break


class ArithmeticTest(unittest.TestCase):
    def test_sums(self):
        for first in PATHS:
            for second in PATHS:
                both = first + second
                x, y = first.end
                expected = walked(first.runs) + [(x + a, y + b) for a, b in walked(second.runs)[1:]]
                self.assertEqual(list(both.stations()), expected)
        self.assertEqual((Path([(0, 1), (1, 2)]) + Path([(1, BIG), (0, 1)])).runs, ((0, 1), (1, BIG + 2), (0, 1)))

    def test_multiples(self):
        for path in PATHS:
            total = Path()
            for n in range(5):
                self.assertEqual(path * n, total)
                total = total + path
        self.assertEqual((Path([(3, BIG)]) * 50).runs, ((3, 50 * BIG),))
        self.assertEqual((Path([(3, 1), (2, 1)]) * 50).steps, 100)
        self.assertEqual((PATHS[3] * 0).runs, ())

    def test_multiples_that_there_are_not(self):
        for n in (-1, 51, BIG, -BIG):
            for path in PATHS:
                before = path.runs
                self.assertEqual(refusal(self, BadCount, lambda p, k: p * k, path, n).count, n)
                self.assertEqual(path.runs, before)

    def test_other_kinds_of_operands(self):
        for wrong in (lambda: PATHS[1] + 1, lambda: PATHS[1] * "2", lambda: PATHS[1] * PATHS[1]):
            with self.assertRaises(TypeError):
                wrong()

    def test_back(self):
        for path in PATHS:
            x, y = path.end
            expected = [(a - x, b - y) for a, b in reversed(walked(path.runs))]
            self.assertEqual(list(path.back().stations()), expected)
            self.assertEqual(path.back().back(), path)
        self.assertEqual(Path([(0, 3), (4, BIG)]).back().runs, ((1, BIG), (3, 3)))

    def test_equality(self):
        self.assertTrue(Path([(0, 1), (0, 1)]) == Path([(0, 2)]))
        self.assertFalse(Path([(0, 1), (0, 1)]) != Path([(0, 2)]))
        self.assertFalse(Path([(0, 1)]) == Path([(0, 2)]))
        # The same places in another order of the steps are another path.
        self.assertTrue(Path([(0, 1), (2, 1)]) != Path([(2, 1), (0, 1)]))


class TextTest(unittest.TestCase):
    def test_texts(self):
        self.assertEqual(Path().text(), "still")
        self.assertEqual(Path([(0, 3), (3, 5), (2, 10)]).text(), "0:3 3:5 2:10")
        self.assertEqual(Path.read("0:3 3:5 2:10").runs, ((0, 3), (3, 5), (2, 10)))
        self.assertEqual(Path.read("still"), Path())
        for path in PATHS:
            self.assertEqual(Path.read(text=path.text()), path)

    def test_numbers_of_400_digits(self):
        long = "9" * 400
        self.assertEqual(Path.read(f"5:{long}").steps, 10 ** 400 - 1)
        self.assertEqual(Path.read(f"5:{long}").text(), f"5:{long}")
        for longer in ("1" + "0" * 400, "7" * 5000):
            self.assertEqual(refusal(self, BadText, Path.read, f"1:1 5:{longer} x").at, 1)

    def test_texts_that_are_not_accepted(self):
        for text, at in (
            ("", 0), (" ", 0), ("still ", 0), ("still still", 0), (" still", 0), ("Still", 0), ("0:1 still", 1),
            ("0:1 ", 1), (" 0:1", 0), ("0:1  1:1", 1), ("0:1\n1:1", 0), ("0:1\n", 0), ("6:1", 0), ("-1:1", 0),
            ("0:0", 0), ("0:-1", 0), ("0:1 1:0", 1), ("00:1", 0), ("0:01", 0), ("+0:1", 0), ("0:+1", 0), ("-0:1", 0),
            ("0", 0), ("0:", 0), (":1", 0), (":", 0), ("0:1:1", 0), ("0::1", 0), ("0,1", 0), ("a:1", 0), ("0:b", 0),
            ("0:1 0:1", 1), ("0:1 1:1 1:2", 2), ("0:1 1:1 0:1 7:1 0:0", 3), ("10:1", 0), ("0:1.0", 0), ("0:1_0", 0),
            ("0:1 x 0:1", 1), ("0:2 0:x", 1), ("0:\u0661", 0), ("0:\u00b2", 0),
        ):
            self.assertEqual(refusal(self, BadText, Path.read, text).at, at, repr(text))

    def test_steps_may_come_again_later(self):
        self.assertEqual(Path.read("0:1 3:1 0:1").runs, ((0, 1), (3, 1), (0, 1)))


if __name__ == "__main__":
    unittest.main()
