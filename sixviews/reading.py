"""Sheets and single inks, read from tables of views."""

from sixviews.boxes import places_in
from sixviews.cells import KINDS, line_of, lines_at, rising
from sixviews.errors import BadSize, TooHeavy
from sixviews.inks import gathered
from sixviews.sheets import Sheet
from sixviews.views import Views

_MOST_WIDE = 8

# The sheet of a pen is the sum of six wedges, one at each corner, with signs. The wedge of a view consists of the cells
# that reach beyond the corner (True) or do not (False) at the seam before the view and at the seam of the view.
_WEDGES = ((True, True), (True, False), (True, False), (False, False), (False, True), (False, True))


def drawn(views):
    """The sheet with these views."""
    views.check()
    box = views.box()
    places = places_in(box)
    if places > Views.MOST:
        raise TooHeavy(places)
    if box is None:
        return Sheet()
    left, bottom, right, top = box
    around = [rising(view, (0, 0)) for view in range(6)]
    inks = {}
    # In this order all cells at a place are known, except those that rise from it in view 0.
    for x in range(left, right + 1):
        for y in range(bottom, top + 1):
            _add_risen(inks, x, y, [heap[x, y] - _seen(inks, x, y, cells) for heap, cells in zip(views, around)])
    return Sheet([(x, y, kind, ink) for (x, y, kind), ink in inks.items()])


def _seen(inks, x, y, cells):
    """The ink that the cells, moved by (x, y), show in a view in which they rise from this place."""
    total = 0
    for dx, dy, kind in cells:
        ink = inks.get((x + dx, y + dy, kind), 0)
        total = total - ink if kind in ("e", "n", "w") else total + ink
    return total


def _add_risen(inks, x, y, left):
    """Add the inks of the cells that rise from the place in view 0; they show what is left in the six views."""
    inks[(x, y, "d")] = left[3]
    inks[(x, y, "e")] = left[3] - left[1] + left[0] - left[5]
    inks[(x, y, "n")] = left[3] - left[2]
    inks[(x, y, "u")] = left[3] - left[2] + left[0] - left[5]
    inks[(x + 1, y - 1, "v")] = left[3] - left[4] + left[0] - left[1]
    inks[(x + 1, y - 1, "w")] = left[3] - left[4]


def ink_at(views, cell):
    """The ink that the sheet with these views has on the cell."""
    views.check()
    return _inks_on(views, [cell])[0]


def window(views, left, bottom, *, wide=4, high=4):
    """The part of the sheet with these views on the cells whose own places lie in the window."""
    views.check()
    if not 1 <= wide <= _MOST_WIDE or not 1 <= high <= _MOST_WIDE:
        raise BadSize(wide, high)
    cells = [(left + dx, bottom + dy, kind) for dx in range(wide) for dy in range(high) for kind in KINDS]
    inks = _inks_on(views, cells)
    return Sheet([(x, y, kind, ink) for (x, y, kind), ink in zip(cells, inks)])


def _inks_on(views, cells):
    """The inks that the sheet with these views has on the cells."""
    # A cell reaches beyond a corner at a seam if its greatest line number there is greater than that of the corner.
    reaches = [[lines_at(seam, cell)[-1] for seam in range(6)] for cell in cells]
    bounds = [(min(column) - 1, max(column)) for column in zip(*reaches)]
    totals = [0] * len(cells)
    for view, heap in enumerate(views):
        corners = _corner_lines(heap, view, bounds)
        totals = [total + _wedged(view, corners, reach) for total, reach in zip(totals, reaches)]
    return totals


def _corner_lines(heap, view, bounds):
    """The tuples (line, line, ink) of the spots of the view at its two seams.

    Lines beyond the bounds count as those at the bounds, so that there are few tuples, however many the spots are.
    """
    before = (view + 5) % 6
    pairs = [
        ((_bounded(line_of(before, (x, y)), bounds[before]), _bounded(line_of(view, (x, y)), bounds[view])), ink)
        for x, y, ink in heap
    ]
    return [(line, other, ink) for (line, other), ink in gathered(pairs).items()]


def _bounded(line, bounds):
    """The line number that lies within the bounds and is nearest to this one."""
    least, most = bounds
    return min(max(line, least), most)


def _wedged(view, corners, reaches):
    """The sum of the inks of the wedges of a view that contain the cell with these reaches."""
    beyond_before, beyond = _WEDGES[view]
    total = sum([
        ink for line, other, ink in corners
        if (reaches[view - 1] > line) == beyond_before and (reaches[view] > other) == beyond
    ])
    return total if beyond_before == beyond else -total
