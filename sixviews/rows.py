"""Rows: drawings on a line."""

from sixviews.errors import BadKind, NoEraser, TooHeavy, UnlikeEuler
from sixviews.inks import gathered

_MOST_WEIGHT = 4000

# The marks (how far ahead, kind, sign) to which two marks at 0 sweep, and which a mark at 0 becomes inside out.
_SWEPT = {
    "dd": ((0, "d", 1),),
    "dg": ((0, "g", 1),),
    "gd": ((0, "g", 1),),
    "gg": ((0, "g", -1), (1, "d", -1), (1, "g", -1)),
}
_TURNED = {
    "d": ((0, "d", 1),),
    "g": ((0, "d", -1), (0, "g", -1), (1, "d", -1)),
}


class Row:
    """An integer of ink on finitely many marks."""

    MOST = 1000

    def __init__(self, marks=()):
        for mark in marks:
            _check_mark(mark[1])
        self._inks = gathered([((t, kind), ink) for t, kind, ink in marks])
        self._rows = tuple(sorted([(t, kind, ink) for (t, kind), ink in self._inks.items()]))

    @staticmethod
    def of_ends(ahead, behind):
        """The row with these two ends."""
        front, back = gathered(ahead), gathered(behind)
        if sum(front.values()) != sum(back.values()):
            raise UnlikeEuler(1)
        lines = list(front) + list(back)
        if not lines:
            return Row()
        low, high = min(lines), max(lines)
        if high - low > Row.MOST:
            raise TooHeavy(high - low)
        return Row(_marks_between(front, back, low, high))

    @staticmethod
    def stretch(low, high):
        """The row whose end ahead is the ink 1 at `high` and whose end behind is the ink 1 at `low`."""
        return Row.of_ends([(high, 1)], [(low, 1)])

    def __iter__(self):
        return iter(self._rows)

    def __getitem__(self, at):
        t, kind = at
        _check_mark(kind)
        return self._inks.get((t, kind), 0)

    def __eq__(self, other):
        return isinstance(other, Row) and self._rows == other._rows

    def __bool__(self):
        return bool(self._rows)

    def __add__(self, other):
        if not isinstance(other, Row):
            return NotImplemented
        return Row(self._rows + other._rows)

    def __sub__(self, other):
        if not isinstance(other, Row):
            return NotImplemented
        return self + -other

    def __neg__(self):
        return self * -1

    def __mul__(self, other):
        if isinstance(other, int):
            return Row([(t, kind, ink * other) for t, kind, ink in self._rows])
        if not isinstance(other, Row):
            return NotImplemented
        weight = self.many * other.many
        if weight > _MOST_WEIGHT:
            raise TooHeavy(weight)
        return Row([
            (t + u + by, result, ink * factor * sign)
            for t, kind, ink in self._rows
            for u, its_kind, factor in other._rows
            for by, result, sign in _SWEPT[kind + its_kind]
        ])

    def __rmul__(self, other):
        if not isinstance(other, int):
            return NotImplemented
        return self * other

    def __invert__(self):
        return Row([(t + by, part, ink * sign) for t, kind, ink in self._rows for by, part, sign in _TURNED[kind]])

    @property
    def many(self):
        """The number of marks with ink."""
        return len(self._rows)

    @property
    def dots(self):
        """The sum of the inks of the dots."""
        return sum([ink for t, kind, ink in self._rows if kind == "d"])

    @property
    def gaps(self):
        """The sum of the inks of the gaps."""
        return sum([ink for t, kind, ink in self._rows if kind == "g"])

    @property
    def euler(self):
        """The Euler number."""
        return self.dots - self.gaps

    def moved(self, by):
        """Each mark moved by `by`."""
        return Row([(t + by, kind, ink) for t, kind, ink in self._rows])

    def flipped(self):
        """The row seen from the other side of 0."""
        return Row([(-t if kind == "d" else -t - 1, kind, ink) for t, kind, ink in self._rows])

    def ahead(self):
        """The end ahead, a list of tuples (t, ink), ascending."""
        return _sums([(t, ink if kind == "d" else -ink) for t, kind, ink in self._rows])

    def behind(self):
        """The end behind, a list of tuples (t, ink), ascending."""
        return _sums([(t, ink) if kind == "d" else (t + 1, -ink) for t, kind, ink in self._rows])


def row_eraser(row):
    """The row that sweeps with this one to the dot at 0."""
    ends = (row.ahead(), row.behind())
    for at, end in enumerate(ends):
        if len(end) != 1 or abs(end[0][1]) != 1:
            raise NoEraser(at)
    ahead, behind = [[(-t, ink) for t, ink in end] for end in ends]
    return Row.of_ends(ahead, behind)


def _check_mark(kind):
    """Refuse what is not the kind of a mark."""
    if kind not in ("d", "g"):
        raise BadKind(kind)


def _sums(pairs):
    """The tuples (t, ink) of an end, ascending; the inks of the same t are added."""
    return sorted([(t, ink) for t, ink in gathered(pairs).items()])


def _marks_between(front, back, low, high):
    """The marks of the row with these ends, dicts without ink below `low` or above `high`."""
    marks = []
    gap = 0
    for t in range(low, high + 1):
        # The dot at t is the end behind plus the gap before t, and also the end ahead plus the gap after t.
        gap = gap + back.get(t, 0) - front.get(t, 0)
        marks.append((t, "g", gap))
        marks.append((t, "d", front.get(t, 0) + gap))
    return marks
