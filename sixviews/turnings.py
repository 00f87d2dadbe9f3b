"""The 24 turnings of the paper."""

from sixviews.cells import STEPS, cell_with, check_view, corners_of
from sixviews.errors import BadTurning


class Turning:
    """The mirror or not, then 0 to 5 turns, and inverted or not."""

    def __init__(self, turns=0, *, mirrored=False, inverted=False):
        self.turns = turns % 6
        self.mirrored = mirrored
        self.inverted = inverted

    @property
    def code(self):
        """The code of the turning, from 0 to 23."""
        return self.turns + (6 if self.mirrored else 0) + (12 if self.inverted else 0)

    @staticmethod
    def coded(code):
        """The turning with this code."""
        if not 0 <= code <= 23:
            raise BadTurning(code)
        return Turning(code % 6, mirrored=code % 12 >= 6, inverted=code >= 12)

    def step_to(self, step):
        """The number of the step to which this step is carried."""
        return ((1 - step if self.mirrored else step) + self.turns) % 6

    def place_to(self, place):
        """The carried place."""
        x, y = place
        across = STEPS[self.step_to(0)]
        along = STEPS[self.step_to(1)]
        return (x * across[0] + y * along[0], x * across[1] + y * along[1])

    def cell_to(self, cell):
        """The carried cell."""
        return cell_with(sorted([self.place_to(corner) for corner in corners_of(cell)]))

    def view_to(self, view):
        """The view to which this view is led."""
        check_view(view)
        return (self.step_to(view) + (3 if self.inverted else 0)) % 6

    def seam_to(self, seam):
        """The seam to which this seam is led."""
        check_view(seam)
        return ((-seam if self.mirrored else seam) + self.turns) % 6

    def then(self, other):
        """The turning that does this turning first and then the other one."""
        mirrored = self.mirrored != other.mirrored
        # A mirrored turning carries step 0 one step further than its turns alone would.
        gone = other.step_to(self.step_to(0))
        return Turning(
            gone - 1 if mirrored else gone,
            mirrored=mirrored,
            inverted=self.inverted != other.inverted,
        )

    def back(self):
        """The turning that undoes this one."""
        # A mirrored turning exchanges pairs of steps, so doing it twice undoes it.
        turns = self.turns if self.mirrored else -self.turns
        return Turning(turns, mirrored=self.mirrored, inverted=self.inverted)

    def __eq__(self, other):
        return isinstance(other, Turning) and self.code == other.code
