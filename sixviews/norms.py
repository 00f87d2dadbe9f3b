"""Norms and weights of sheets."""

from sixviews.erasers import counter
from sixviews.views import Views


def norm(sheet):
    """The sheet swept with its counter sheet."""
    return sheet * counter(sheet)


def weights(sheet):
    """For each view the sum of the squares of its inks."""
    return tuple([sum([ink * ink for x, y, ink in heap]) for heap in Views.of_sheet(sheet)])
