"""Count tables of sheets."""

from sixviews.digests import Digest

_HEADER = " no   euler      dots   strokes  triangles      rim"


def count_table(sheets):
    """The count table of the sheets, a text."""
    return "\n".join([_HEADER] + [_line(at, Digest.of_sheet(sheet)) for at, sheet in enumerate(sheets)])


def _line(at, digest):
    """The line of the sheet with this index and digest."""
    counts = f"{digest.dots:>10,}{digest.strokes:>10,}{digest.triangles:>11,}"
    return f"{at:>3}{digest.euler:>8,}" + counts + f"{digest.rim:>9,}"
