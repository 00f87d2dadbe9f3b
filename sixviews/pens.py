"""Pens, drawn and crossed."""

from sixviews.cells import KINDS, STEPS, corners_of, line_of
from sixviews.errors import BadCount, NotClosed, NotDrawn, Nowhere


class Pen:
    """A pen, given by its six reaches."""

    def __init__(self, reaches):
        if len(reaches) != 6:
            raise BadCount(len(reaches))
        self.reaches = tuple(reaches)

    @staticmethod
    def around(places):
        """The pen whose reach at each seam is the greatest line number of the places."""
        if len(places) == 0:
            raise Nowhere()
        return Pen([max([line_of(seam, place) for place in places]) for seam in range(6)])

    @staticmethod
    def unit(kind):
        """The pen of the closure of the cell of this kind at (0, 0)."""
        return Pen.around(corners_of((0, 0, kind)))

    @staticmethod
    def even(size):
        """The pen whose reaches are all the size."""
        return Pen([size] * 6)

    @staticmethod
    def of_sides(sides, x=0, y=0):
        """The pen with these six sides, whose corner 0 is (x, y)."""
        if len(sides) != 6:
            raise BadCount(len(sides))
        corners = _corners_along(sides, x, y)
        gap = (corners[6][0] - x, corners[6][1] - y)
        if gap != (0, 0):
            raise NotClosed(gap)
        return Pen([line_of(seam, corners[seam]) for seam in range(6)])

    def corners(self):
        """The six corners."""
        r0, r1, r2, r3, r4, r5 = self.reaches
        return ((r5, r0 - r5), (r0 - r1, r1), (-r2, r1), (-r2, r2 - r3), (r4 - r3, -r4), (r5, -r4))

    def sides(self):
        """The six sides."""
        reaches = self.reaches
        return tuple([reaches[side - 1] + reaches[(side + 1) % 6] - reaches[side] for side in range(6)])

    @property
    def is_drawn(self):
        """True if no side is below 0."""
        return min(self.sides()) >= 0

    @property
    def area(self):
        """The sum of each side times its reach."""
        return sum([side * reach for side, reach in zip(self.sides(), self.reaches)])

    @property
    def rim(self):
        """The sum of the sides."""
        return sum(self.sides())

    def dimension(self):
        """0, 1 or 2, for a drawn pen."""
        check_drawn(self)
        narrow = [seam for seam in range(6) if _width(self, seam) == 0]
        if len(narrow) == 6:
            return 0
        return 1 if narrow else 2

    def __add__(self, other):
        if not isinstance(other, Pen):
            return NotImplemented
        return Pen([mine + its for mine, its in zip(self.reaches, other.reaches)])

    def __sub__(self, other):
        if not isinstance(other, Pen):
            return NotImplemented
        return Pen([mine - its for mine, its in zip(self.reaches, other.reaches)])

    def __neg__(self):
        return Pen([-reach for reach in self.reaches])

    def __mul__(self, other):
        if not isinstance(other, int):
            return NotImplemented
        return Pen([reach * other for reach in self.reaches])

    def __rmul__(self, other):
        if not isinstance(other, int):
            return NotImplemented
        return self * other

    def __eq__(self, other):
        return isinstance(other, Pen) and self.reaches == other.reaches

    def __contains__(self, place):
        return all([line_of(seam, place) <= self.reaches[seam] for seam in range(6)])

    def has(self, cell):
        """True if all corners of the cell lie in the pen."""
        return all([corner in self for corner in corners_of(cell)])

    def moved(self, dx, dy):
        """The pen moved by (dx, dy)."""
        return Pen([self.reaches[seam] + line_of(seam, (dx, dy)) for seam in range(6)])

    def turned(self, turning):
        """The pen to which the turning leads this pen."""
        back = turning.back()
        reaches = [self.reaches[back.seam_to(seam)] for seam in range(6)]
        if turning.inverted:
            return Pen([-reaches[seam - 3] for seam in range(6)])
        return Pen(reaches)


def check_drawn(pen):
    """Refuse a crossed pen."""
    for side, length in enumerate(pen.sides()):
        if length < 0:
            raise NotDrawn(side)


def inner_cells(pen):
    """The cells that lie inside the drawn pen, ascending; it goes through the box of its corners."""
    reaches = pen.reaches
    edges = {
        (x, y): _edges_at(pen, (x, y))
        for x in range(-reaches[2], reaches[5] + 1)
        for y in range(-reaches[4], reaches[1] + 1)
        if (x, y) in pen
    }
    return [(x, y, kind) for x, y in edges for kind in KINDS if _is_inner(corners_of((x, y, kind)), edges)]


def _edges_at(pen, place):
    """The seams at which the place lies on a border of the pen on which not the whole pen lies."""
    return [
        seam for seam, reach in enumerate(pen.reaches) if line_of(seam, place) == reach and _width(pen, seam) > 0
    ]


def _is_inner(corners, edges):
    """True if the corners all lie in the pen and not all on one border; edges tells the borders of its places."""
    if not all([corner in edges for corner in corners]):
        return False
    return not any([all([seam in edges[corner] for corner in corners]) for seam in edges[corners[0]]])


def _width(pen, seam):
    """How many ruled lines of the seam apart the two ends of the pen are."""
    return pen.reaches[seam] + pen.reaches[seam - 3]


def _corners_along(sides, x, y):
    """The place (x, y) and those to which the sides lead from it, one after another."""
    corners = [(x, y)]
    for side, length in enumerate(sides):
        last_x, last_y = corners[-1]
        dx, dy = STEPS[(side + 2) % 6]
        corners.append((last_x + length * dx, last_y + length * dy))
    return corners
