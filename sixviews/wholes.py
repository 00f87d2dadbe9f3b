"""The views, digests and shadows of the names of a drawing, found from those of its slots."""

from sixviews.cells import check_view, line_of
from sixviews.digests import Digest
from sixviews.layers import layer_made
from sixviews.shadows import shadow
from sixviews.views import Views


class Shades:
    """The shadows of a sheet at all six seams."""

    def __init__(self, rows):
        self.rows = tuple(rows)

    def __add__(self, other):
        return Shades([mine + its for mine, its in zip(self.rows, other.rows)])

    def __mul__(self, other):
        if isinstance(other, int):
            return Shades([row * other for row in self.rows])
        return Shades([mine * its for mine, its in zip(self.rows, other.rows)])

    def moved(self, dx, dy):
        """The shadows of the sheet moved by (dx, dy)."""
        return Shades([row.moved(line_of(seam, (dx, dy))) for seam, row in enumerate(self.rows)])

    def turned(self, turning):
        """The shadows of the turned sheet."""
        back = turning.back()
        rows = [self.rows[back.seam_to(seam)] for seam in range(6)]
        return Shades([~row for row in rows] if turning.inverted else rows)


def views_of(drawing, name):
    """The views of the sheet of the name."""
    return _whole(drawing, name, lambda sheet: Views.of_sheet(sheet))


def digest_of(drawing, name):
    """The digest of the sheet of the name."""
    return _whole(drawing, name, lambda sheet: Digest.of_sheet(sheet))


def shadow_of(drawing, name, seam):
    """The shadow of the sheet of the name at the seam."""
    drawing.check_known(name)
    check_view(seam)
    return _whole(drawing, name, _shades_of).rows[seam]


def _shades_of(sheet):
    """The shadows of the sheet at all six seams."""
    return Shades([shadow(sheet, seam) for seam in range(6)])


def _whole(drawing, name, seen):
    """What stands for the sheet of the name, found from what stands for the sheets of the slots."""
    drawing.check_known(name)
    things = {slot: seen(drawing[slot]) for slot in drawing.slots}
    for layer in drawing.layers:
        things[layer] = layer_made(drawing.deed(layer), things, seen)
    return things[name]
