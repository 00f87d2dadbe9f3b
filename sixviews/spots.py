"""Heaps of spots."""

from sixviews.cells import check_view, line_of
from sixviews.errors import TooHeavy
from sixviews.inks import gathered, multiplied


class Spots:
    """A heap: an integer of ink at finitely many places."""

    MOST = 4000

    def __init__(self, rows=()):
        self._inks = gathered([((x, y), ink) for x, y, ink in rows])
        self._rows = tuple(sorted([(x, y, ink) for (x, y), ink in self._inks.items()]))

    def __iter__(self):
        return iter(self._rows)

    def __getitem__(self, at):
        x, y = at
        return self._inks.get((x, y), 0)

    def __eq__(self, other):
        return isinstance(other, Spots) and self._rows == other._rows

    def __bool__(self):
        return bool(self._rows)

    def __add__(self, other):
        if not isinstance(other, Spots):
            return NotImplemented
        return Spots(self._rows + other._rows)

    def __sub__(self, other):
        if not isinstance(other, Spots):
            return NotImplemented
        return self + -other

    def __neg__(self):
        return self * -1

    def __mul__(self, other):
        if isinstance(other, int):
            return Spots([(x, y, ink * other) for x, y, ink in self._rows])
        if not isinstance(other, Spots):
            return NotImplemented
        weight = self.many * other.many
        if weight > Spots.MOST:
            raise TooHeavy(weight)
        return Spots(multiplied(self._rows, other._rows))

    def __rmul__(self, other):
        if not isinstance(other, int):
            return NotImplemented
        return self * other

    @property
    def total(self):
        """The sum of the inks."""
        return sum([ink for x, y, ink in self._rows])

    @property
    def many(self):
        """The number of spots."""
        return len(self._rows)

    def moved(self, dx, dy):
        """Each spot moved by (dx, dy)."""
        return Spots([(x + dx, y + dy, ink) for x, y, ink in self._rows])

    def turned(self, turning):
        """Each spot carried by the turning."""
        carried = [(turning.place_to(place), ink) for place, ink in self._inks.items()]
        return Spots([(x, y, ink) for (x, y), ink in carried])

    def sums(self, seam):
        """The tuples (line, sum) of the ruled lines of the seam with a sum that is not 0, ascending."""
        check_view(seam)
        lines = gathered([(line_of(seam, place), ink) for place, ink in self._inks.items()])
        return sorted([(line, ink) for line, ink in lines.items()])

    def moment(self, seam):
        """The sum of ink times line number."""
        check_view(seam)
        return sum([ink * line_of(seam, place) for place, ink in self._inks.items()])

    def single(self):
        """The spot (x, y, ink) if there is exactly one, otherwise None."""
        return self._rows[0] if self.many == 1 else None

    def box(self):
        """The least x, the least y, the greatest x and the greatest y of the spots, or None if there are none."""
        if not self._rows:
            return None
        across = [x for x, y, ink in self._rows]
        along = [y for x, y, ink in self._rows]
        return (min(across), min(along), max(across), max(along))
