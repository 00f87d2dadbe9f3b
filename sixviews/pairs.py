"""The sweep of two cells."""

from sixviews.cells import dimension
from sixviews.pens import Pen, inner_cells


def swept_cells(cell, other):
    """The sweep of two cells: a list of tuples (x, y, kind, sign), ascending."""
    both = _closed(cell) + _closed(other)
    odd = (dimension(cell) + dimension(other) - both.dimension()) % 2 == 1
    return [(x, y, kind, -1 if odd else 1) for x, y, kind in inner_cells(both)]


def _closed(cell):
    """The pen of the closure of the cell."""
    x, y, kind = cell
    return Pen.unit(kind).moved(x, y)
