"""Erasers: sheets that undo a sweep."""

from sixviews.cells import line_of
from sixviews.errors import NoEraser
from sixviews.pens import Pen
from sixviews.turnings import Turning
from sixviews.views import Views


def counter(sheet):
    """The sheet turned by three turns and then inside out."""
    return sheet.turned(Turning(3, inverted=True))


def eraser(sheet):
    """The sheet that sweeps with this one to the single dot."""
    _check_erasable(_single_spots(sheet))
    return counter(sheet)


def is_erasable(sheet):
    """True if the sheet has an eraser."""
    return all([_is_unit(spot) for spot in _single_spots(sheet)])


def pen_of(sheet):
    """A tuple (sign, pen), such that the sheet is the sign times the sheet of the pen."""
    spots = _single_spots(sheet)
    _check_erasable(spots)
    reaches = [line_of(view, (x, y)) for view, (x, y, _) in enumerate(spots)]
    return (spots[0][2], Pen(reaches))


def _single_spots(sheet):
    """For each view of the sheet its only spot, or None."""
    return [heap.single() for heap in Views.of_sheet(sheet)]


def _is_unit(spot):
    """True if there is a spot with the ink 1 or -1."""
    return spot is not None and abs(spot[2]) == 1


def _check_erasable(spots):
    """Refuse a sheet that has not a single spot with the ink 1 or -1 in each view."""
    for view, spot in enumerate(spots):
        if not _is_unit(spot):
            raise NoEraser(view)
