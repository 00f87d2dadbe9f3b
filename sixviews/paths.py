"""Paths along the steps."""

from sixviews.cells import STEPS
from sixviews.digits import number_in
from sixviews.errors import BadCount, BadLength, BadText, BadView


class Path:
    """A path that starts at (0, 0) and walks along steps."""

    MOST = 200

    def __init__(self, runs=()):
        for at, (step, length) in enumerate(runs):
            if not 0 <= step <= 5:
                raise BadView(step)
            if length < 0:
                raise BadLength(at)
        self.runs = tuple(_united(runs))

    @classmethod
    def read(cls, text):
        """The path of which this is the text."""
        if text == "still":
            return cls()
        return cls(_runs_in(text))

    def text(self):
        """The text of the path."""
        if not self.runs:
            return "still"
        return " ".join([f"{step}:{length}" for step, length in self.runs])

    @property
    def end(self):
        """The place at which the path ends."""
        return self.knees()[-1]

    @property
    def steps(self):
        """The number of the steps."""
        return sum([length for step, length in self.runs])

    @property
    def is_straight(self):
        """True if the path has at most one run."""
        return len(self.runs) <= 1

    def __add__(self, other):
        if not isinstance(other, Path):
            return NotImplemented
        return Path(self.runs + other.runs)

    def __mul__(self, other):
        if not isinstance(other, int):
            return NotImplemented
        if not 0 <= other <= 50:
            raise BadCount(other)
        return Path(self.runs * other)

    def __eq__(self, other):
        return isinstance(other, Path) and self.runs == other.runs

    def back(self):
        """The path that walks the opposite steps in the reverse order."""
        return Path([((step + 3) % 6, length) for step, length in self.runs[::-1]])

    def knees(self):
        """The place (0, 0) and the places after each run."""
        places = [(0, 0)]
        for step, length in self.runs:
            x, y = places[-1]
            dx, dy = STEPS[step]
            places.append((x + length * dx, y + length * dy))
        return places

    def stations(self):
        """Yield the places at which the path is after 0, 1, 2, .. steps."""
        x, y = 0, 0
        yield (x, y)
        for step, length in self.runs:
            dx, dy = STEPS[step]
            for _ in range(length):
                x, y = x + dx, y + dy
                yield (x, y)


def _united(runs):
    """The runs without those of length 0; then neighbours with the same step are one run."""
    found = []
    for step, length in runs:
        if length == 0:
            continue
        if found and found[-1][0] == step:
            found[-1] = (step, found[-1][1] + length)
        else:
            found.append((step, length))
    return found


def _runs_in(text):
    """The runs of the path with this text, which is not that of the path without runs."""
    runs = []
    for at, word in enumerate(text.split(" ")):
        run = _run_in(word)
        if run is None or (runs and run[0] == runs[-1][0]):
            raise BadText(at)
        runs.append(run)
    return runs


def _run_in(word):
    """The run (step, length) that the word STEP:LENGTH tells, or None if it is not such a word."""
    first, _, second = word.partition(":")
    step, length = number_in(first), number_in(second)
    if step is None or length is None or not 0 <= step <= 5 or length < 1:
        return None
    return (step, length)
