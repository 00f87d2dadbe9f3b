"""What several tests use; it follows the words of the document and not the code of the program."""

import random

STEP = [(1, 0), (0, 1), (-1, 1), (-1, 0), (0, -1), (1, -1)]
KIND_NAMES = ["d", "e", "n", "u", "v", "w"]

# The steps from a cell's own place to its corners, as the table of kinds tells them.
CORNER_STEPS = {"d": [], "e": [0], "n": [1], "w": [2], "u": [0, 1], "v": [1, 2]}

HEIGHTS = [
    lambda x, y: 2 * x + y,
    lambda x, y: x + 2 * y,
    lambda x, y: y - x,
    lambda x, y: -2 * x - y,
    lambda x, y: -x - 2 * y,
    lambda x, y: x - y,
]
LINES = [
    lambda x, y: x + y,
    lambda x, y: y,
    lambda x, y: -x,
    lambda x, y: -x - y,
    lambda x, y: -y,
    lambda x, y: x,
]

BIG = 10 ** 39 + 7


def corner_set(cell):
    """The corners of the cell."""
    x, y, kind = cell
    return {(x, y)} | {(x + STEP[k][0], y + STEP[k][1]) for k in CORNER_STEPS[kind]}


def cells_around(size):
    """All cells with own places up to `size` away from (0, 0), ascending."""
    around = range(-size, size + 1)
    return [(x, y, kind) for x in around for y in around for kind in KIND_NAMES]


def faces(cell):
    """All cells whose corners are corners of the cell, found by search."""
    x, y, _ = cell
    near = [(a, b, kind) for a in range(x - 2, x + 3) for b in range(y - 2, y + 3) for kind in KIND_NAMES]
    return [other for other in near if corner_set(other) <= corner_set(cell)]


def view_of(rows, view):
    """View `view` of the sheet with these rows, a dict from places to inks."""
    heap = {}
    for x, y, kind, ink in rows:
        place = min(corner_set((x, y, kind)), key=lambda corner: HEIGHTS[view](*corner))
        sign = -1 if kind in "enw" else 1
        heap[place] = heap.get(place, 0) + sign * ink
    return {place: ink for place, ink in heap.items() if ink}


def views_of(rows):
    """The six views of the sheet with these rows."""
    rows = list(rows)
    return [view_of(rows, view) for view in range(6)]


def heap_product(first, second):
    """The product of two heaps, dicts from places to inks."""
    heap = {}
    for (x, y), ink in first.items():
        for (a, b), factor in second.items():
            heap[x + a, y + b] = heap.get((x + a, y + b), 0) + ink * factor
    return {place: ink for place, ink in heap.items() if ink}


def places_in(reaches):
    """The places that lie in the pen with these reaches, found by search."""
    most = max(abs(reach) for reach in reaches)
    around = range(-most, most + 1)
    return [
        (x, y)
        for x in around
        for y in around
        if all(LINES[seam](x, y) <= reaches[seam] for seam in range(6))
    ]


def cells_in(reaches):
    """The cells that lie in the pen with these reaches, found by search."""
    places = set(places_in(reaches))
    return [(x, y, kind) for x, y in sorted(places) for kind in KIND_NAMES if corner_set((x, y, kind)) <= places]


def rows_of_pen(reaches):
    """The rows of the sheet of the drawn pen with these reaches."""
    return [(x, y, kind, 1) for x, y, kind in cells_in(reaches)]


def walked_rows(runs):
    """The rows of the sheet of the path with these runs, by point 29; a cell may have several rows."""
    rows = [(0, 0, "d", 1)]
    place = (0, 0)
    for step, length in runs:
        for _ in range(length):
            before, place = place, (place[0] + STEP[step][0], place[1] + STEP[step][1])
            own = before if step < 3 else place
            rows.append((*own, "enw"[step % 3], 1))
            rows.append((*place, "d", 1))
    return rows


def some_rows(seed, many=8, size=3):
    """Rows of a sheet, the same ones for the same seed."""
    dice = random.Random(seed)
    return [
        (dice.randint(-size, size), dice.randint(-size, size), dice.choice(KIND_NAMES), dice.choice([-2, -1, 1, 2, 3]))
        for _ in range(many)
    ]


def some_spots(seed, many=6, size=3):
    """Rows of a heap, the same ones for the same seed."""
    dice = random.Random(seed)
    return [
        (dice.randint(-size, size), dice.randint(-size, size), dice.choice([-3, -2, -1, 1, 2, 3]))
        for _ in range(many)
    ]


def some_recipes():
    """The recipes of small drawn pens, with and without triangles."""
    return [
        (e, n, w, u, v)
        for e in range(3)
        for n in range(2)
        for w in range(2)
        for u in range(3)
        for v in range(2)
    ]


UNIT_REACHES = {
    "d": (0, 0, 0, 0, 0, 0),
    "e": (1, 0, 0, 0, 0, 1),
    "n": (1, 1, 0, 0, 0, 0),
    "w": (0, 1, 1, 0, 0, 0),
    "u": (1, 1, 0, 0, 0, 1),
    "v": (1, 1, 1, 0, 0, 0),
}


def reaches_of_recipe(counts):
    """The reaches of the pen of the recipe."""
    return tuple(
        sum(count * UNIT_REACHES[kind][seam] for kind, count in zip("enwuv", counts))
        for seam in range(6)
    )


def refusal(case, error, call, *args, **more):
    """The error of this class that the call raises; another class, or none, fails."""
    with case.assertRaises(error) as caught:
        call(*args, **more)
    case.assertIs(type(caught.exception), error)
    return caught.exception
