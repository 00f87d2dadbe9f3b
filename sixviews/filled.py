"""Sheets of pens."""

from sixviews.boxes import places_in
from sixviews.errors import TooHeavy
from sixviews.pens import check_drawn, inner_cells
from sixviews.reading import drawn
from sixviews.sheets import Sheet
from sixviews.views import Views


def sheet_of(pen):
    """The sheet of the pen, drawn or crossed."""
    # The spots of the views of a pen are its corners, so this refuses a box of the corners that is too large.
    return drawn(Views.of_pen(pen))


def inside_of(pen):
    """The sheet with the ink 1 on each cell that lies inside the drawn pen."""
    check_drawn(pen)
    places = places_in(Views.of_pen(pen).box())
    if places > Views.MOST:
        raise TooHeavy(places)
    cells = inner_cells(pen)
    return Sheet.of(*cells)
