"""Killers: sheets that sweep to a blank sheet."""

from sixviews.errors import NoKiller
from sixviews.tufts import tuft
from sixviews.views import Views


def blank_views(sheet):
    """The views in which the sheet is blank, ascending."""
    return [view for view, heap in enumerate(Views.of_sheet(sheet)) if not heap]


def sweep_is_blank(first, second):
    """True if the two sheets sweep to a blank sheet."""
    return all([not mine or not its for mine, its in zip(Views.of_sheet(first), Views.of_sheet(second))])


def killer(sheet):
    """A sheet that is not blank and sweeps with this one to a blank sheet."""
    blank = blank_views(sheet)
    if not blank:
        raise NoKiller()
    # A tuft is seen in one view alone, so it sweeps to a blank sheet with what is blank there.
    return tuft(blank[0], (0, 0))
