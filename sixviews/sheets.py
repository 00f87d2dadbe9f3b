"""Sheets, their sums and their sweeps."""

from sixviews.cells import KINDS, check_kind, closure, dimension
from sixviews.digits import number_in
from sixviews.errors import BadPower, BadText, TooHeavy
from sixviews.inks import gathered, multiplied
from sixviews.pairs import swept_cells
from sixviews.turnings import Turning


class Sheet:
    """An integer of ink on finitely many cells."""

    MOST = 4000

    def __init__(self, rows=()):
        for row in rows:
            check_kind(row[2])
        self._inks = gathered([((x, y, kind), ink) for x, y, kind, ink in rows])
        self._rows = tuple(sorted([(x, y, kind, ink) for (x, y, kind), ink in self._inks.items()]))

    @classmethod
    def of(cls, *cells):
        """The sum of the cells, each with the ink 1."""
        return cls([(x, y, kind, 1) for x, y, kind in cells])

    @staticmethod
    def dot(x=0, y=0, *, ink=1):
        """The sheet with this ink on the dot at (x, y) and no other ink."""
        return Sheet([(x, y, "d", ink)])

    @classmethod
    def read(cls, text):
        """The sheet of which this is the text."""
        if text == "blank":
            return cls()
        return cls(_rows_in(text))

    def text(self):
        """The text of the sheet."""
        if not self._rows:
            return "blank"
        return " ".join([f"{x},{y},{kind}:{ink}" for x, y, kind, ink in self._rows])

    def __iter__(self):
        return iter(self._rows)

    def __getitem__(self, at):
        x, y, kind = at
        check_kind(kind)
        return self._inks.get((x, y, kind), 0)

    def __contains__(self, cell):
        x, y, kind = cell
        check_kind(kind)
        return (x, y, kind) in self._inks

    def __eq__(self, other):
        return isinstance(other, Sheet) and self._rows == other._rows

    def __bool__(self):
        return bool(self._rows)

    def __add__(self, other):
        if not isinstance(other, Sheet):
            return NotImplemented
        return Sheet(self._rows + other._rows)

    def __sub__(self, other):
        if not isinstance(other, Sheet):
            return NotImplemented
        return self + -other

    def __neg__(self):
        return self * -1

    def __mul__(self, other):
        if isinstance(other, int):
            return Sheet([(x, y, kind, ink * other) for x, y, kind, ink in self._rows])
        if not isinstance(other, Sheet):
            return NotImplemented
        weight = self.many * other.many
        if weight > Sheet.MOST:
            raise TooHeavy(weight)
        return sweep_of(self, other)

    def __rmul__(self, other):
        if not isinstance(other, int):
            return NotImplemented
        return self * other

    def __pow__(self, other):
        return self.raised(other)

    def __invert__(self):
        return Sheet([
            (x, y, part, ink if dimension(cell) % 2 == 0 else -ink)
            for cell, ink in self._inks.items()
            for x, y, part in closure(cell)
        ])

    def raised(self, n):
        """The power n: this sheet swept n times onto the single dot."""
        if not 0 <= n <= 9:
            raise BadPower(n)
        power = Sheet.dot()
        for _ in range(n):
            power = power * self
        return power

    def moved(self, dx, dy):
        """Each cell with its ink moved by (dx, dy)."""
        return Sheet([(x + dx, y + dy, kind, ink) for x, y, kind, ink in self._rows])

    def turned(self, turning):
        """The sheet to which the turning leads this sheet."""
        carried = [(turning.cell_to(cell), ink) for cell, ink in self._inks.items()]
        sheet = Sheet([(x, y, kind, ink) for (x, y, kind), ink in carried])
        return ~sheet if turning.inverted else sheet

    @property
    def many(self):
        """The number of cells with ink."""
        return len(self._rows)

    @property
    def dots(self):
        """The sum of the inks of the dots."""
        return self._ink_of(0)

    @property
    def strokes(self):
        """The sum of the inks of the strokes."""
        return self._ink_of(1)

    @property
    def triangles(self):
        """The sum of the inks of the triangles."""
        return self._ink_of(2)

    @property
    def euler(self):
        """The Euler number."""
        return self.dots - self.strokes + self.triangles

    def _ink_of(self, size):
        """The sum of the inks of the cells of this dimension."""
        return sum([ink for cell, ink in self._inks.items() if dimension(cell) == size])


def joined(*sheets):
    """The sum of any number of sheets."""
    return Sheet([row for sheet in sheets for row in sheet])


def swept(*sheets):
    """The sweep of any number of sheets, from the left."""
    result = Sheet.dot()
    for sheet in sheets:
        result = result * sheet
    return result


def turned_copies(sheet):
    """Yield the 24 tuples (code, turned sheet) in the order of the codes of the turnings."""
    for code in range(24):
        yield (code, sheet.turned(Turning.coded(code)))


def sweep_of(first, second):
    """The sweep of two sheets of any weight."""
    return Sheet([
        row
        for kind in KINDS
        for other in KINDS
        for row in _swept_kinds(first, second, kind, other)
    ])


def _swept_kinds(first, second, kind, other):
    """The rows of the sweep of the cells of one kind of the first sheet with those of one kind of the second."""
    spots = multiplied(_inks_at(first, kind), _inks_at(second, other))
    if not spots:
        return []
    pattern = swept_cells((0, 0, kind), (0, 0, other))
    return [(x + dx, y + dy, cell, ink * sign) for x, y, ink in spots for dx, dy, cell, sign in pattern]


def _inks_at(sheet, kind):
    """The own places of the cells of this kind with their inks."""
    return [(x, y, ink) for x, y, its_kind, ink in sheet if its_kind == kind]


def _rows_in(text):
    """The rows of the sheet with this text, which is not that of the blank sheet."""
    rows = []
    for at, word in enumerate(text.split(" ")):
        row = _row_in(word)
        if row is None or (rows and row[:3] <= rows[-1][:3]):
            raise BadText(at)
        rows.append(row)
    return rows


def _row_in(word):
    """The row `(x, y, kind, ink)` that the word X,Y,KIND:INK tells, or None if it is not such a word."""
    cell, _, figures = word.partition(":")
    parts = cell.split(",")
    if len(parts) != 3 or parts[2] not in KINDS:
        return None
    x, y, ink = number_in(parts[0]), number_in(parts[1]), number_in(figures)
    if x is None or y is None or ink is None or ink == 0:
        return None
    return (x, y, parts[2], ink)
