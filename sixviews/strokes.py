"""Sheets of paths, and pens that are moved along them."""

from sixviews.cells import cell_with
from sixviews.errors import TooHeavy
from sixviews.filled import sheet_of
from sixviews.paths import Path
from sixviews.pens import check_drawn
from sixviews.reading import ink_at
from sixviews.sheets import Sheet
from sixviews.views import Views


def path_sheet(path):
    """The sheet of the path."""
    _check_steps(path)
    places = list(path.stations())
    dots = [(x, y, "d") for x, y in places]
    walked = [cell_with(sorted([place, other])) for place, other in zip(places, places[1:])]
    cells = dots + walked
    return Sheet.of(*cells)


def stroke(pen, path):
    """The stroke of the pen along the path."""
    return sheet_of(pen) * path_sheet(path)


def stays(pen, path, cell):
    """The number of stays of the drawn pen over the cell."""
    check_drawn(pen)
    _check_steps(path)
    return far_ink(pen, path, cell)


def far_ink(pen, path, cell):
    """The ink of the stroke of the pen along the path on the cell."""
    # Each view of the stroke is that of the path, moved to the one spot of that of the pen.
    moved = [heap.moved(x, y) for heap, (x, y) in zip(Views.of_path(path), pen.corners())]
    return ink_at(Views(moved), cell)


def _check_steps(path):
    """Refuse a path with too many steps."""
    if path.steps > Path.MOST:
        raise TooHeavy(path.steps)
