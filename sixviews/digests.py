"""Digests: the counts of sheets that need not be made."""

from sixviews.cells import KINDS, dimension, line_of, lines_at
from sixviews.errors import BadCount, BadPower, OddDigest
from sixviews.views import Views

_MOST_POWER = 400


class Digest:
    """The Euler number, six moments and the number of triangles."""

    def __init__(self, euler, moments, triangles):
        if len(moments) != 6:
            raise BadCount(len(moments))
        if (triangles + sum(moments)) % 2 == 1:
            raise OddDigest()
        self.moments = tuple(moments)
        self._euler = euler
        self._triangles = triangles

    @staticmethod
    def of_sheet(sheet):
        """The digest of a sheet."""
        return Digest(sheet.euler, [_moment_of(sheet, seam) for seam in range(6)], sheet.triangles)

    @staticmethod
    def of_pen(pen):
        """The digest of the sheet of a pen, drawn or crossed."""
        return Digest(1, pen.reaches, pen.area)

    @staticmethod
    def of_path(path):
        """The digest of the sheet of a path."""
        return Digest(1, _moments_of(Views.of_path(path)), 0)

    @staticmethod
    def of_views(views):
        """The digest of the sheet with these views."""
        views.check()
        return Digest(views[0].total, _moments_of(views), _triangles_of(views))

    @property
    def euler(self):
        """The Euler number."""
        return self._euler

    @property
    def triangles(self):
        """The number of triangles."""
        return self._triangles

    @property
    def rim(self):
        """The sum of the moments."""
        return sum(self.moments)

    @property
    def dots(self):
        """The number of dots."""
        return (self._triangles + self.rim) // 2 + self._euler

    @property
    def strokes(self):
        """The number of strokes."""
        return self.dots + self._triangles - self._euler

    def __add__(self, other):
        if not isinstance(other, Digest):
            return NotImplemented
        moments = [mine + its for mine, its in zip(self.moments, other.moments)]
        return Digest(self._euler + other._euler, moments, self._triangles + other._triangles)

    def __sub__(self, other):
        if not isinstance(other, Digest):
            return NotImplemented
        return self + -other

    def __neg__(self):
        return self * -1

    def __mul__(self, other):
        if isinstance(other, int):
            return Digest(self._euler * other, [moment * other for moment in self.moments], self._triangles * other)
        if not isinstance(other, Digest):
            return NotImplemented
        mine, its = self.moments, other.moments
        mixed_number = sum([(mine[seam - 1] + mine[(seam + 1) % 6] - mine[seam]) * its[seam] for seam in range(6)])
        return Digest(
            self._euler * other._euler,
            [self._euler * its[seam] + other._euler * mine[seam] for seam in range(6)],
            self._euler * other._triangles + other._euler * self._triangles + 2 * mixed_number,
        )

    def __rmul__(self, other):
        if not isinstance(other, int):
            return NotImplemented
        return self * other

    def __pow__(self, other):
        return self.raised(other)

    def __eq__(self, other):
        return isinstance(other, Digest) and self._numbers() == other._numbers()

    def _numbers(self):
        """The eight numbers."""
        return (self._euler, self.moments, self._triangles)

    def raised(self, n):
        """The product of n digests that are all this one."""
        if not 0 <= n <= _MOST_POWER:
            raise BadPower(n)
        if n == 0:
            return Digest(1, [0] * 6, 0)
        half = self.raised(n // 2)
        return half * half * self if n % 2 == 1 else half * half

    def moved(self, dx, dy):
        """The digest of the sheet moved by (dx, dy)."""
        moments = [moment + self._euler * line_of(seam, (dx, dy)) for seam, moment in enumerate(self.moments)]
        return Digest(self._euler, moments, self._triangles)

    def turned(self, turning):
        """The digest to which the turning leads this digest."""
        back = turning.back()
        moments = [self.moments[back.seam_to(seam)] for seam in range(6)]
        if turning.inverted:
            moments = [-moments[seam - 3] for seam in range(6)]
        return Digest(self._euler, moments, self._triangles)


def _moment_of(sheet, seam):
    """The sum of ink times least line number, with the opposite sign for strokes."""
    least = {kind: lines_at(seam, (0, 0, kind))[0] for kind in KINDS}
    signs = {kind: -1 if dimension((0, 0, kind)) == 1 else 1 for kind in KINDS}
    return sum([signs[kind] * ink * (line_of(seam, (x, y)) + least[kind]) for x, y, kind, ink in sheet])


def _moments_of(views):
    """The moments of the sheet with these views."""
    return [heap.moment(seam) for seam, heap in enumerate(views)]


def _triangles_of(views):
    """The number of triangles of the sheet with these views."""
    total = 0
    for view, heap in enumerate(views):
        for x, y, ink in heap:
            before, line = line_of((view + 5) % 6, (x, y)), line_of(view, (x, y))
            total = total + ink * (2 * before * line - line * line)
    return total
