"""Recipes of drawn pens."""

from sixviews.errors import BadCount, BadLength
from sixviews.pens import Pen, check_drawn

_RECIPE_KINDS = ("e", "n", "w", "u", "v")


def recipe(pen):
    """The reduced recipe of the pen."""
    check_drawn(pen)
    sides = pen.sides()
    # Only the triangles make a side unlike the opposite one.
    excess = sides[0] - sides[3]
    u = max(0, excess)
    v = max(0, -excess)
    return (sides[4] - u, sides[2] - u, sides[0] - u, u, v)


def cooked(counts):
    """The pen of the recipe."""
    if len(counts) != 5:
        raise BadCount(len(counts))
    for at, count in enumerate(counts):
        if count < 0:
            raise BadLength(at)
    pen = Pen.even(0)
    for kind, count in zip(_RECIPE_KINDS, counts):
        pen = pen + Pen.unit(kind) * count
    return pen


def recipes(pen):
    """Yield all recipes of the pen, the reduced one first, then with ever greater numbers of u."""
    e, n, w, u, v = recipe(pen)
    # A triangle u and a triangle v have the same pen as the three strokes.
    while min(e, n, w) >= 0:
        yield (e, n, w, u, v)
        e, n, w, u, v = e - 1, n - 1, w - 1, u + 1, v + 1
