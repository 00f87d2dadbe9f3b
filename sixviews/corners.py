"""The corner sum of a table of views."""

from sixviews.cells import STEPS
from sixviews.reading import drawn
from sixviews.spots import Spots

# For each view: its sign, the j of the F j that it is multiplied by, and the x and the y by which it is moved.
_PARTS = ((-1, 0, 0, 1), (1, 1, 0, 1), (-1, 2, 0, 1), (-1, 0, -1, 1), (1, 1, 0, 0), (-1, 2, 1, 0))


def corner_sum(views):
    """The corner sum of the table; its seams may be broken."""
    rows = []
    for heap, (sign, j, right, up) in zip(views, _PARTS):
        dx, dy = STEPS[j]
        for x, y, ink in heap:
            rows.append((x + right, y + up, sign * ink))
            rows.append((x + right + dx, y + up + dy, -sign * ink))
    return Spots(rows)


def dot_spots(views):
    """The inks on the dots of the sheet with these views."""
    return Spots([(x, y, ink) for x, y, kind, ink in drawn(views) if kind == "d"])
