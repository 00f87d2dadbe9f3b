"""Tufts: sheets that are seen in one view alone."""

from sixviews.cells import check_view, hanging
from sixviews.dividing import divided
from sixviews.errors import NotAlone
from sixviews.sheets import Sheet
from sixviews.views import Views


def tuft(view, place):
    """The ink 1 on the six cells that hang from the place in the view."""
    cells = hanging(view, place)
    return Sheet.of(*cells)


def tufted(view, spots):
    """The sum over all spots of ink times the tuft of the view at the place of the spot."""
    cells = hanging(view, (0, 0))
    return Sheet([(x + dx, y + dy, kind, ink) for x, y, ink in spots for dx, dy, kind in cells])


def seen_alone(sheet):
    """The number of the only view of the sheet that is not blank, or None if there is not exactly one."""
    seen = [view for view, heap in enumerate(Views.of_sheet(sheet)) if heap]
    return seen[0] if len(seen) == 1 else None


def spots_of(sheet, view):
    """The heap of which the sheet is the tufted sheet of this view."""
    check_view(view)
    heaps = Views.of_sheet(sheet)
    for other, heap in enumerate(heaps):
        if other != view and heap:
            raise NotAlone(other)
    return untufted(view, heaps[view])


def untufted(view, heap):
    """The heap of which this heap is the view of the tufted sheet."""
    return divided(heap, Views.of_sheet(tuft(view, (0, 0)))[view])
