"""Growths: how the counts of a sheet grow with a pen."""

from sixviews.digests import Digest


class Growth:
    """The numbers (a * n * n + b * n + c) / 2 for all integers n."""

    def __init__(self, square, slope, start):
        self._halves = (square, slope, start)

    @property
    def halves(self):
        """The tuple (a, b, c)."""
        return self._halves

    def __call__(self, n):
        square, slope, start = self._halves
        return (square * n * n + slope * n + start) // 2

    def __add__(self, other):
        if not isinstance(other, Growth):
            return NotImplemented
        mine, its = self._halves, other._halves
        return Growth(mine[0] + its[0], mine[1] + its[1], mine[2] + its[2])

    def __sub__(self, other):
        if not isinstance(other, Growth):
            return NotImplemented
        mine, its = self._halves, other._halves
        return Growth(mine[0] - its[0], mine[1] - its[1], mine[2] - its[2])

    def __eq__(self, other):
        return isinstance(other, Growth) and self._halves == other._halves

    def text(self):
        """The text of the growth."""
        square, slope, start = self._halves
        return f"({square} nn + {slope} n + {start}) / 2"


def dot_growth(sheet, pen):
    """The growth of the dots of the sheet with the pen."""
    return _growth([digest.dots for digest in _three_digests(sheet, pen)])


def stroke_growth(sheet, pen):
    """The growth of the strokes of the sheet with the pen."""
    return _growth([digest.strokes for digest in _three_digests(sheet, pen)])


def triangle_growth(sheet, pen):
    """The growth of the triangles of the sheet with the pen."""
    return _growth([digest.triangles for digest in _three_digests(sheet, pen)])


def _three_digests(sheet, pen):
    """The digests of the sweeps of the sheet with -1, 0 and 1 times the pen."""
    digest = Digest.of_sheet(sheet)
    return [digest * Digest.of_pen(pen * n) for n in (-1, 0, 1)]


def _growth(numbers):
    """The growth with these three numbers for -1, 0 and 1."""
    before, here, ahead = numbers
    return Growth(ahead + before - 2 * here, ahead - before, 2 * here)
