"""Sheets parted into shadows and tufts, and put together again."""

from sixviews.boxes import box_around, places_in
from sixviews.errors import BadCount, TooHeavy
from sixviews.reading import drawn
from sixviews.shadows import lifted_views, shadows
from sixviews.sheets import joined
from sixviews.tufts import tufted, untufted
from sixviews.views import Views


def parted(sheet):
    """The tuple (rows, heaps) of the three rows and the six heaps that make up the sheet."""
    rows = shadows(sheet)
    views, lifted = Views.of_sheet(sheet), lifted_views(rows)
    places = places_in(box_around([views.box(), lifted.box()]))
    if places > Views.MOST:
        raise TooHeavy(places)
    heaps = [untufted(view, heap) for view, heap in enumerate(views - lifted)]
    return (rows, tuple(heaps))


def put_together(rows, heaps):
    """The lift of the three rows plus the six tufted sheets."""
    lifted = lifted_views(rows)
    if len(heaps) != 6:
        raise BadCount(len(heaps))
    parts = [drawn(lifted)] + [tufted(view, heap) for view, heap in enumerate(heaps)]
    return joined(*parts)
