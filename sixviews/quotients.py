"""Quotients of sheets."""

from sixviews.dividing import divided
from sixviews.errors import BlankView, BrokenSeam, NoQuotient, Undivided, UnlikeTotals
from sixviews.reading import drawn
from sixviews.shadows import lifted_heap
from sixviews.spots import Spots
from sixviews.views import Views


def quotient(sheet, divisor):
    """The sheet that sweeps with the divisor to the sheet; no view of the divisor is blank."""
    heaps, divisors = Views.of_sheet(sheet), Views.of_sheet(divisor)
    for view, heap in enumerate(divisors):
        if not heap:
            raise BlankView(view)
    return drawn(Views([_divided_view(view, heaps, divisors) for view in range(6)]))


def any_quotient(sheet, divisor):
    """A sheet that sweeps with the divisor to the sheet."""
    heaps, divisors = Views.of_sheet(sheet), Views.of_sheet(divisor)
    found = {}
    for view in range(6):
        if divisors[view]:
            found[view] = _divided_view(view, heaps, divisors)
        elif heaps[view]:
            raise NoQuotient(view)
    _check_seen_seams(found)
    _check_totals(found)
    return drawn(_filled(found))


def _divided_view(view, heaps, divisors):
    """The quotient of the heaps of this view of two tables."""
    try:
        return divided(heaps[view], divisors[view])
    except Undivided:
        raise NoQuotient(view)


def _check_seen_seams(found):
    """Refuse quotient heaps, a dict from the seen views, with a broken seam between two of them."""
    for seam, line, here, there in Views([found.get(view, Spots()) for view in range(6)]).broken():
        if seam in found and (seam + 1) % 6 in found:
            raise BrokenSeam(seam, line, here, there)


def _check_totals(found):
    """Refuse quotient heaps, a dict from the seen views in order, with unlike totals."""
    seen = list(found)
    for view in seen:
        if found[view].total != found[seen[0]].total:
            raise UnlikeTotals(seen[0], view)


def _filled(found):
    """The filled table of point 41, from the quotient heaps of the seen views."""
    totals = [heap.total for heap in found.values()]
    euler = totals[0] if totals else 0
    ends = [_end_at(seam, found, euler) for seam in range(6)]
    return Views([
        found[view] if view in found else lifted_heap(view, ends[view - 1], ends[view], euler) for view in range(6)
    ])


def _end_at(seam, found, euler):
    """The sums at the seam of a seen view beside it, or `euler` at 0 if there is none."""
    for view in (seam, (seam + 1) % 6):
        if view in found:
            return found[view].sums(seam)
    return [(0, euler)]
