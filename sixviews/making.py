"""Papers that tell why something can or cannot be done."""

from sixviews.dividing import divided
from sixviews.erasers import eraser
from sixviews.errors import BrokenSeam, NoEraser, NoQuotient, Undivided
from sixviews.judging import parting
from sixviews.killers import blank_views, killer
from sixviews.papers import (
    AlikePaper, ErasePaper, KillPaper, PartingPaper, QuotientPaper, RestPaper, SeamPaper, StubbornPaper,
)
from sixviews.quotients import quotient
from sixviews.views import Views


def erase_paper(sheet):
    """A paper with the eraser of the sheet, or with the view that shows that there is none."""
    try:
        return ErasePaper(sheet, eraser(sheet))
    except NoEraser as why:
        return StubbornPaper(sheet, why.view)


def kill_paper(sheet):
    """A paper with a killer of the sheet."""
    return KillPaper(sheet, killer(sheet), blank_views(sheet)[0])


def quotient_paper(sheet, divisor):
    """A paper with the quotient of the sheet by the divisor, or with what shows that there is none."""
    try:
        return QuotientPaper(sheet, divisor, quotient(sheet, divisor))
    except NoQuotient as missing:
        return _rest_paper(sheet, divisor, missing.view)
    except BrokenSeam as broken:
        return _seam_paper(sheet, divisor, broken.seam, broken.line)


def script_paper(first, second):
    """A paper that the two scripts always give the same sheets, or with a sheet for which they do not."""
    sheet = parting(first, second)
    return AlikePaper(first, second) if sheet is None else PartingPaper(first, second, sheet)


def _rest_paper(sheet, divisor, view):
    """The paper on the view of the sheet that cannot be divided by that of the divisor."""
    try:
        divided(Views.of_sheet(sheet)[view], Views.of_sheet(divisor)[view])
    except Undivided as why:
        return RestPaper(sheet, divisor, view, why.quotient, why.rest)


def _seam_paper(sheet, divisor, seam, line):
    """The paper on the seam between the quotient heaps of two views, which is broken on the line."""
    heaps, divisors = Views.of_sheet(sheet), Views.of_sheet(divisor)
    low_heap, high_heap = [divided(heaps[view], divisors[view]) for view in (seam, (seam + 1) % 6)]
    return SeamPaper(sheet, divisor, seam, low_heap, high_heap, line)
