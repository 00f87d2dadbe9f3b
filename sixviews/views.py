"""Tables of views."""

from sixviews.boxes import box_around
from sixviews.cells import KINDS, STEPS, check_view, dimension, height, lowest
from sixviews.errors import BadCount, BrokenSeam
from sixviews.spots import Spots


class Views:
    """A table of views: six heaps, view 0 to view 5."""

    MOST = 400

    def __init__(self, heaps):
        if len(heaps) != 6:
            raise BadCount(len(heaps))
        self.heaps = tuple(heaps)

    @staticmethod
    def of_sheet(sheet):
        """The views of a sheet."""
        return Views([_sheet_seen(sheet, view) for view in range(6)])

    @staticmethod
    def of_pen(pen):
        """The views of the sheet of a pen, drawn or crossed."""
        return Views([Spots([(x, y, 1)]) for x, y in pen.corners()])

    @staticmethod
    def of_path(path):
        """The views of the sheet of a path."""
        return Views([_path_seen(path, view) for view in range(6)])

    def __iter__(self):
        return iter(self.heaps)

    def __getitem__(self, at):
        check_view(at)
        return self.heaps[at]

    def __eq__(self, other):
        return isinstance(other, Views) and self.heaps == other.heaps

    def __bool__(self):
        return any([bool(heap) for heap in self.heaps])

    def __add__(self, other):
        if not isinstance(other, Views):
            return NotImplemented
        return Views([mine + its for mine, its in zip(self.heaps, other.heaps)])

    def __sub__(self, other):
        if not isinstance(other, Views):
            return NotImplemented
        return Views([mine - its for mine, its in zip(self.heaps, other.heaps)])

    def __neg__(self):
        return Views([-heap for heap in self.heaps])

    def __mul__(self, other):
        if isinstance(other, int):
            return Views([heap * other for heap in self.heaps])
        if not isinstance(other, Views):
            return NotImplemented
        return Views([mine * its for mine, its in zip(self.heaps, other.heaps)])

    def __rmul__(self, other):
        if not isinstance(other, int):
            return NotImplemented
        return self * other

    def __invert__(self):
        return Views([self.heaps[view - 3] for view in range(6)])

    def moved(self, dx, dy):
        """Each spot moved by (dx, dy)."""
        return Views([heap.moved(dx, dy) for heap in self.heaps])

    def turned(self, turning):
        """The table to which the turning leads this table."""
        back = turning.back()
        return Views([self.heaps[back.view_to(view)].turned(turning) for view in range(6)])

    def broken(self):
        """All broken seams as tuples (seam, line, here, there), ascending."""
        found = []
        for seam in range(6):
            here, there = self.heaps[seam], self.heaps[(seam + 1) % 6]
            found.extend(_unlike_sums(seam, dict(here.sums(seam)), dict(there.sums(seam))))
        return found

    def check(self):
        """Refuse a table with a broken seam."""
        broken = self.broken()
        if broken:
            seam, line, here, there = broken[0]
            raise BrokenSeam(seam, line, here, there)

    def box(self):
        """The box of the spots of all six views, or None if there are none."""
        return box_around([heap.box() for heap in self.heaps])


def _sheet_seen(sheet, view):
    """The view of the sheet: each cell with its ink, or the opposite for strokes, at its lowest corner."""
    hooks = {kind: lowest(view, (0, 0, kind)) for kind in KINDS}
    signs = {kind: -1 if dimension((0, 0, kind)) == 1 else 1 for kind in KINDS}
    return Spots([(x + hooks[kind][0], y + hooks[kind][1], ink * signs[kind]) for x, y, kind, ink in sheet])


def _path_seen(path, view):
    """The view of the path."""
    rows = [(0, 0, 1)]
    knees = path.knees()
    for at, (step, _) in enumerate(path.runs):
        if height(view, STEPS[step]) > 0:
            before_x, before_y = knees[at]
            x, y = knees[at + 1]
            rows.append((before_x, before_y, -1))
            rows.append((x, y, 1))
    return Spots(rows)


def _unlike_sums(seam, here, there):
    """The tuples (seam, line, sum, other sum) of the lines on which two dicts of sums are unlike, ascending."""
    lines = sorted(set(list(here) + list(there)))
    sums = [(seam, line, here.get(line, 0), there.get(line, 0)) for line in lines]
    return [entry for entry in sums if entry[2] != entry[3]]
