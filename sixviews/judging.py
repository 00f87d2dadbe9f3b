"""Scripts and forms, judged for all sheets at once."""

from sixviews.blends import Blend
from sixviews.cells import STEPS
from sixviews.erasers import is_erasable
from sixviews.errors import NotStill
from sixviews.killers import blank_views, killer
from sixviews.quotients import quotient
from sixviews.sheets import Sheet
from sixviews.tufts import tuft


def test_sheets():
    """The 25 test sheets."""
    return [Sheet()] + [_far_tuft(view, m) for view in range(6) for m in range(4)]


def parting(first, second):
    """The first test sheet for which the two scripts give different sheets, or None if they always give the same."""
    blend, other = Blend.of_script(first), Blend.of_script(second)
    if blend != other:
        for sheet in test_sheets():
            if blend(sheet) != other(sheet):
                return sheet
    return None


def one_to_one(form):
    """None, or a tuple of two different sheets for which the form gives the same sheet."""
    if not blank_views(form.gain):
        return None
    return (Sheet(), killer(form.gain).turned(form.turning.back()))


def is_onto(form):
    """True if each sheet is given for some sheet."""
    return is_erasable(form.gain)


def left_alone(form):
    """The only sheet that the form leaves alone."""
    if form.turning.code != 0:
        raise NotStill(form.turning.code)
    return quotient(form.laid, Sheet.dot() - form.gain)


def is_settled(form):
    """True if doing the form twice gives for every sheet the same as doing it once."""
    return form.then(form) == form


def _far_tuft(view, m):
    """The tuft of the view at m times the step behind the view."""
    x, y = STEPS[(view + 1) % 6]
    return tuft(view, (m * x, m * y))
