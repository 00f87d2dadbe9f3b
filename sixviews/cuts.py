"""Sheets and pens cut along ruled lines."""

from sixviews.cells import check_view, lines_at
from sixviews.errors import Nowhere
from sixviews.pens import Pen, check_drawn
from sixviews.sheets import Sheet


def lower(sheet, seam, line=0):
    """The ink on the cells whose corners all have line numbers of at most `line`."""
    return _part(sheet, seam, lambda lines: lines[-1] <= line)


def upper(sheet, seam, line=0):
    """The ink on all cells that are not in the lower part."""
    return _part(sheet, seam, lambda lines: lines[-1] > line)


def slice_at(sheet, seam, line=0):
    """The ink on the cells whose corners all have the line number `line`."""
    return _part(sheet, seam, lambda lines: lines == [line])


def band(sheet, seam, line=0):
    """The ink on the cells whose corners have both line numbers `line` and `line` + 1."""
    return _part(sheet, seam, lambda lines: lines == [line, line + 1])


def _part(sheet, seam, is_wanted):
    """The ink on the cells of which the line numbers of the corners at the seam are wanted."""
    check_view(seam)
    return Sheet([(x, y, kind, ink) for x, y, kind, ink in sheet if is_wanted(lines_at(seam, (x, y, kind)))])


def lower_pen(pen, seam, line=0):
    """The drawn pen of which the sheet is the lower part of the sheet of the drawn pen."""
    check_drawn(pen)
    check_view(seam)
    reaches = list(pen.reaches)
    if line < -reaches[seam - 3]:
        raise Nowhere()
    reaches[seam] = min(reaches[seam], line)
    # The line numbers of a seam are the sums of those of its two neighbours, so the cut bounds both neighbours.
    for near, far in ((seam + 1, seam + 2), (seam - 1, seam - 2)):
        reaches[near % 6] = min(reaches[near % 6], reaches[seam] + reaches[far % 6])
    return Pen(reaches)
