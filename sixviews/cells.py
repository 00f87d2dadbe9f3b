"""Places, views, ruled lines and cells of the paper."""

from sixviews.errors import BadKind, BadView

STEPS = ((1, 0), (0, 1), (-1, 1), (-1, 0), (0, -1), (1, -1))
KINDS = ("d", "e", "n", "u", "v", "w")

# How much x and y count for the height in each view, and for the line number at each seam.
_HEIGHTS = ((2, 1), (1, 2), (-1, 1), (-2, -1), (-1, -2), (1, -1))
_LINES = ((1, 1), (0, 1), (-1, 0), (-1, -1), (0, -1), (1, 0))

# The corners and the closures of the cells with the own place (0, 0), ascending.
_CORNERS = {
    "d": ((0, 0),),
    "e": ((0, 0), (1, 0)),
    "n": ((0, 0), (0, 1)),
    "w": ((-1, 1), (0, 0)),
    "u": ((0, 0), (0, 1), (1, 0)),
    "v": ((-1, 1), (0, 0), (0, 1)),
}
_CLOSURES = {
    "d": ((0, 0, "d"),),
    "e": ((0, 0, "d"), (0, 0, "e"), (1, 0, "d")),
    "n": ((0, 0, "d"), (0, 0, "n"), (0, 1, "d")),
    "w": ((-1, 1, "d"), (0, 0, "d"), (0, 0, "w")),
    "u": ((0, 0, "d"), (0, 0, "e"), (0, 0, "n"), (0, 0, "u"), (0, 1, "d"), (1, 0, "d"), (1, 0, "w")),
    "v": ((-1, 1, "d"), (-1, 1, "e"), (0, 0, "d"), (0, 0, "n"), (0, 0, "v"), (0, 0, "w"), (0, 1, "d")),
}

# The cell of which these are the ascending corners, seen from the first of them.
_SHAPES = {
    ((0, 0),): (0, 0, "d"),
    ((0, 0), (1, 0)): (0, 0, "e"),
    ((0, 0), (0, 1)): (0, 0, "n"),
    ((0, 0), (1, -1)): (1, -1, "w"),
    ((0, 0), (0, 1), (1, 0)): (0, 0, "u"),
    ((0, 0), (1, -1), (1, 0)): (1, -1, "v"),
}


def check_view(view):
    """Refuse what is not the number of a view or a seam."""
    if not 0 <= view <= 5:
        raise BadView(view)


def check_kind(kind):
    """Refuse what is not the kind of a cell."""
    if kind not in KINDS:
        raise BadKind(kind)


def height(view, place):
    """The height of the place in the view."""
    check_view(view)
    x, y = place
    by_x, by_y = _HEIGHTS[view]
    return by_x * x + by_y * y


def line_of(seam, place):
    """The number of the ruled line of the seam through the place."""
    check_view(seam)
    x, y = place
    by_x, by_y = _LINES[seam]
    return by_x * x + by_y * y


def corners_of(cell):
    """The corners of the cell, ascending."""
    x, y, kind = cell
    check_kind(kind)
    return [(x + dx, y + dy) for dx, dy in _CORNERS[kind]]


def lines_at(seam, cell):
    """The line numbers of the corners of the cell at the seam, ascending, each once."""
    return sorted(set([line_of(seam, corner) for corner in corners_of(cell)]))


def cell_with(corners):
    """The cell that has these corners, which are ascending."""
    x, y = corners[0]
    dx, dy, kind = _SHAPES[tuple([(a - x, b - y) for a, b in corners])]
    return (x + dx, y + dy, kind)


def dimension(cell):
    """0 for a dot, 1 for a stroke, 2 for a triangle."""
    return len(corners_of(cell)) - 1


def closure(cell):
    """The cell, its corners and, for a triangle, its sides, ascending."""
    x, y, kind = cell
    check_kind(kind)
    return [(x + dx, y + dy, part) for dx, dy, part in _CLOSURES[kind]]


def star(cell):
    """All cells whose closure contains the cell, ascending."""
    x, y, kind = cell
    check_kind(kind)
    return sorted([
        (x - dx, y - dy, whole)
        for whole in KINDS
        for dx, dy, part in _CLOSURES[whole]
        if part == kind
    ])


def lowest(view, cell):
    """The lowest corner of the cell in the view."""
    check_view(view)
    return min(corners_of(cell), key=lambda place: height(view, place))


def highest(view, cell):
    """The highest corner of the cell in the view."""
    check_view(view)
    return max(corners_of(cell), key=lambda place: height(view, place))


def rising(view, place):
    """The six cells that rise from the place in the view, ascending."""
    return _hooked(place, [lowest(view, (0, 0, kind)) for kind in KINDS])


def hanging(view, place):
    """The six cells that hang from the place in the view, ascending."""
    return _hooked(place, [highest(view, (0, 0, kind)) for kind in KINDS])


def _hooked(place, hooks):
    """One cell of each kind, whose hook is at the place; hooks are told for the own place (0, 0)."""
    x, y = place
    return sorted([(x - dx, y - dy, kind) for kind, (dx, dy) in zip(KINDS, hooks)])
