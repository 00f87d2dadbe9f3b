"""Papers: statements that are looked at again from the definitions alone."""

from sixviews.boxes import lies_in
from sixviews.cells import line_of
from sixviews.deeds import done
from sixviews.dividing import quotient_box
from sixviews.judging import test_sheets
from sixviews.plain import plain_sweep, plain_view
from sixviews.sheets import Sheet


class Paper:
    """States nothing."""

    def holds(self):
        """True: nothing is always true."""
        return True


class SweepPaper(Paper):
    """The first sheet swept with the second one is the result."""

    def __init__(self, first, second, result):
        self.first = first
        self.second = second
        self.result = result

    def holds(self):
        """True if the statement is true."""
        return plain_sweep(self.first, self.second) == self.result


class ErasePaper(SweepPaper):
    """The first sheet swept with the second one is the single dot."""

    def __init__(self, first, second):
        super().__init__(first, second, Sheet.dot())

    def holds(self):
        """True if the statement is true."""
        return plain_sweep(self.first, self.second) == Sheet.dot()


class QuotientPaper(SweepPaper):
    """The divisor swept with the quotient is the sheet."""

    def __init__(self, sheet, divisor, quotient):
        super().__init__(divisor, quotient, sheet)

    def holds(self):
        """True if the statement is true."""
        return plain_sweep(self.first, self.second) == self.result


class ViewPaper(Paper):
    """There is such a view."""

    def __init__(self, sheet, view):
        self.sheet = sheet
        self.view = view

    def holds(self):
        """True if the statement is true."""
        return _is_view(self.view)


class StubbornPaper(ViewPaper):
    """This view of the sheet is not one spot with the ink 1 or -1, so the sheet has no eraser."""

    def __init__(self, sheet, view):
        super().__init__(sheet, view)

    def holds(self):
        """True if the statement is true."""
        if not _is_view(self.view):
            return False
        spot = plain_view(self.sheet, self.view).single()
        return spot is None or abs(spot[2]) != 1


class BlankPaper(ViewPaper):
    """This view of the sheet is blank."""

    def __init__(self, sheet, view):
        super().__init__(sheet, view)

    def holds(self):
        """True if the statement is true."""
        return _is_view(self.view) and not plain_view(self.sheet, self.view)


class KillPaper(SweepPaper, BlankPaper):
    """This view of the sheet is blank, the killer is not, and the two sweep to a blank sheet."""

    def __init__(self, sheet, killer, view):
        SweepPaper.__init__(self, sheet, killer, Sheet())
        BlankPaper.__init__(self, sheet, view)

    def holds(self):
        """True if the statement is true."""
        if not _is_view(self.view) or plain_view(self.sheet, self.view) or not self.second:
            return False
        return not plain_sweep(self.sheet, self.second)


class RestPaper(ViewPaper):
    """The quotient and the rest show that this view of the sheet cannot be divided by that of the divisor."""

    def __init__(self, sheet, divisor, view, quotient, rest):
        super().__init__(sheet, view)
        self.divisor = divisor
        self.quotient = quotient
        self.rest = rest

    def holds(self):
        """True if the statement is true."""
        if not _is_view(self.view):
            return False
        heap, divisor = plain_view(self.sheet, self.view), plain_view(self.divisor, self.view)
        if not heap or not divisor or not self.rest:
            return False
        if self.quotient * divisor + self.rest != heap:
            return False
        return _is_stuck(heap, divisor, self.quotient, self.rest)


class SeamPaper(Paper):
    """The two heaps are the quotients beside a seam, and have unlike sums on a ruled line of it."""

    def __init__(self, sheet, divisor, seam, low_heap, high_heap, line):
        self.sheet = sheet
        self.divisor = divisor
        self.seam = seam
        self.low_heap = low_heap
        self.high_heap = high_heap
        self.line = line

    def holds(self):
        """True if the statement is true."""
        if not _is_view(self.seam):
            return False
        low_view, high_view = self.seam, (self.seam + 1) % 6
        low_divisor, high_divisor = plain_view(self.divisor, low_view), plain_view(self.divisor, high_view)
        if not low_divisor or not high_divisor:
            return False
        if self.low_heap * low_divisor != plain_view(self.sheet, low_view):
            return False
        if self.high_heap * high_divisor != plain_view(self.sheet, high_view):
            return False
        return _sum_on(self.low_heap, self.seam, self.line) != _sum_on(self.high_heap, self.seam, self.line)


class AlikePaper(Paper):
    """The two scripts give the same sheets for all 25 test sheets, so they do for every sheet."""

    def __init__(self, first, second):
        self.first = first
        self.second = second

    def holds(self):
        """True if the statement is true."""
        for sheet in test_sheets():
            if _given(self.first, sheet) != _given(self.second, sheet):
                return False
        return True


class PartingPaper(Paper):
    """The two scripts give different sheets for this sheet."""

    def __init__(self, first, second, sheet):
        self.first = first
        self.second = second
        self.sheet = sheet

    def holds(self):
        """True if the statement is true."""
        return _given(self.first, self.sheet) != _given(self.second, self.sheet)


def _is_view(number):
    """True if there is a view, or a seam, with this number."""
    return 0 <= number <= 5


def _is_stuck(heap, divisor, quotient, rest):
    """True if the rest of this division of the heap shows that there is nothing to divide any further."""
    x, y, ink = list(rest)[-1]
    last_x, last_y, lead = list(divisor)[-1]
    place = (x - last_x, y - last_y)
    if not all([(its_x, its_y) > place for its_x, its_y, _ in quotient]):
        return False
    return ink % lead != 0 or not lies_in(quotient_box(heap, divisor), place[0], place[1])


def _sum_on(heap, seam, line):
    """The sum of the heap on the ruled line."""
    return sum([ink for x, y, ink in heap if line_of(seam, (x, y)) == line])


def _given(script, sheet):
    """The sheet that the script gives, with plain sweeps."""
    for deed in script:
        sheet = plain_sweep(sheet, deed[1]) if deed[0] == "sweep" else done(deed, sheet)
    return sheet
