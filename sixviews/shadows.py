"""Shadows of sheets, and sheets lifted from their shadows."""

from sixviews.cells import STEPS, check_view, dimension, lines_at
from sixviews.errors import BadCount, UnlikeEuler
from sixviews.reading import drawn
from sixviews.rows import Row
from sixviews.spots import Spots
from sixviews.views import Views


def shadow(sheet, seam):
    """The shadow of the sheet at the seam, a row."""
    check_view(seam)
    return Row([_shadow_mark(seam, (x, y, kind), ink) for x, y, kind, ink in sheet])


def shadows(sheet):
    """The shadows of the sheet at the seams 0, 1 and 2."""
    return tuple([shadow(sheet, seam) for seam in range(3)])


def lift(rows):
    """The lift of three rows, a sheet."""
    return drawn(lifted_views(rows))


def shadow_of_pen(pen, seam):
    """The shadow of the sheet of the pen at the seam."""
    check_view(seam)
    return Row.stretch(-pen.reaches[seam - 3], pen.reaches[seam])


def lifted_views(rows):
    """The views of the lift of three rows."""
    if len(rows) != 3:
        raise BadCount(len(rows))
    for at, row in enumerate(rows):
        if row.euler != rows[0].euler:
            raise UnlikeEuler(at)
    ends = [row.ahead() for row in rows] + [[(-t, ink) for t, ink in row.behind()] for row in rows]
    return Views([lifted_heap(view, ends[view - 1], ends[view], rows[0].euler) for view in range(6)])


def lifted_heap(view, before, end, euler):
    """The heap that point 45 makes for the view, from the ends at the seam before it and at its own seam."""
    before_x, before_y = STEPS[view - 1]
    x, y = STEPS[(view + 1) % 6]
    rows = [(t * before_x, t * before_y, ink) for t, ink in before] + [(t * x, t * y, ink) for t, ink in end]
    return Spots(rows + [(0, 0, -euler)])


def _shadow_mark(seam, cell, ink):
    """The mark (t, kind, ink) that the cell with this ink throws at the seam."""
    lines = lines_at(seam, cell)
    # A cell across a band counts as a cell of one dimension less.
    if len(lines) == 2:
        return (lines[0], "g", ink if dimension(cell) == 1 else -ink)
    return (lines[0], "d", ink if dimension(cell) == 0 else -ink)
