"""Sweeps and views, told a second time from their definitions alone."""

from sixviews.cells import check_view, corners_of, dimension, rising
from sixviews.errors import TooHeavy
from sixviews.pairs import swept_cells
from sixviews.sheets import Sheet
from sixviews.spots import Spots


def plain_sweep(first, second):
    """The sweep of two sheets, cell by cell."""
    weight = first.many * second.many
    if weight > Sheet.MOST:
        raise TooHeavy(weight)
    rows = []
    for x, y, kind, ink in first:
        for its_x, its_y, its_kind, factor in second:
            pairs = swept_cells((x, y, kind), (its_x, its_y, its_kind))
            rows.extend([(to_x, to_y, cell, sign * ink * factor) for to_x, to_y, cell, sign in pairs])
    return Sheet(rows)


def plain_view(sheet, view):
    """The heap that shows at each place the inks of the cells that rise from it in the view."""
    check_view(view)
    places = sorted(set([corner for x, y, kind, ink in sheet for corner in corners_of((x, y, kind))]))
    return Spots([(x, y, _ink_seen(sheet, view, (x, y))) for x, y in places])


def _ink_seen(sheet, view, place):
    """The inks of the cells that rise from the place in the view, with the opposite sign for strokes."""
    return sum([-sheet[cell] if dimension(cell) == 1 else sheet[cell] for cell in rising(view, place)])
