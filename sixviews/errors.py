"""All errors of the program."""


class DrawingError(ValueError):
    """The base class of all errors of the program."""


class BadView(DrawingError):
    """There is no view, seam or step with this number."""

    def __init__(self, view):
        self.view = view


class BadKind(DrawingError):
    """There is no kind of cell with this name."""

    def __init__(self, kind):
        self.kind = kind


class BadTurning(DrawingError):
    """There is no turning with this code."""

    def __init__(self, number):
        self.number = number


class BadCount(DrawingError):
    """A list has another length than it must have, or a count is out of bounds."""

    def __init__(self, count):
        self.count = count


class BadLength(DrawingError):
    """The item with this index is below 0."""

    def __init__(self, at):
        self.at = at


class BadPower(DrawingError):
    """There is no such power."""

    def __init__(self, power):
        self.power = power


class BadSize(DrawingError):
    """A window cannot have this size."""

    def __init__(self, wide, high):
        self.wide = wide
        self.high = high


class BadText(DrawingError):
    """The word with this index is not accepted."""

    def __init__(self, at):
        self.at = at


class BadLine(DrawingError):
    """The line or deed with this index is not accepted."""

    def __init__(self, at):
        self.at = at


class BadDeed(DrawingError):
    """The deed with this index is not a deed."""

    def __init__(self, at):
        self.at = at


class BadName(DrawingError):
    """This is not a name for a slot or a layer."""

    def __init__(self, name):
        self.name = name


class TakenName(DrawingError):
    """The drawing has this name already."""

    def __init__(self, name):
        self.name = name


class UnknownName(DrawingError):
    """The drawing does not have this name."""

    def __init__(self, name):
        self.name = name


class NotSlot(DrawingError):
    """This is the name of a layer, not of a slot."""

    def __init__(self, name):
        self.name = name


class NotLayer(DrawingError):
    """This is the name of a slot, not of a layer."""

    def __init__(self, name):
        self.name = name


class TooMany(DrawingError):
    """There are as many as there may be already."""

    def __init__(self, count):
        self.count = count


class TooHeavy(DrawingError):
    """This would be more work than is allowed."""

    def __init__(self, weight):
        self.weight = weight


class NotDrawn(DrawingError):
    """The pen is crossed: this side is below 0."""

    def __init__(self, side):
        self.side = side


class NotClosed(DrawingError):
    """The sides do not lead back to where they began."""

    def __init__(self, gap):
        self.gap = gap


class Nowhere(DrawingError):
    """There is no place or cell."""


class NoSpots(DrawingError):
    """A blank heap divides nothing."""


class Undivided(DrawingError):
    """The heap cannot be divided: this rest remains."""

    def __init__(self, quotient, rest):
        self.quotient = quotient
        self.rest = rest


class BrokenSeam(DrawingError):
    """Two views have unlike sums on this ruled line of their seam."""

    def __init__(self, seam, line, here, there):
        self.seam = seam
        self.line = line
        self.here = here
        self.there = there


class NoEraser(DrawingError):
    """This view, or end, shows that there is no eraser."""

    def __init__(self, view):
        self.view = view


class BlankView(DrawingError):
    """The divisor is blank in this view."""

    def __init__(self, view):
        self.view = view


class NoQuotient(DrawingError):
    """This view shows that there is no quotient."""

    def __init__(self, view):
        self.view = view


class UnlikeTotals(DrawingError):
    """The quotient heaps of two views have unlike totals."""

    def __init__(self, view, other):
        self.view = view
        self.other = other


class UnlikeEuler(DrawingError):
    """The item with this index has another Euler number."""

    def __init__(self, at):
        self.at = at


class OddDigest(DrawingError):
    """The triangles plus the moments of a digest are odd."""


class NoKiller(DrawingError):
    """No view is blank, so there is no killer."""


class NotAlone(DrawingError):
    """The sheet is not blank in this view, too."""

    def __init__(self, view):
        self.view = view


class NotPlain(DrawingError):
    """The deed with this index is a fold."""

    def __init__(self, at):
        self.at = at


class NotStill(DrawingError):
    """The turning with this code moves sheets."""

    def __init__(self, number):
        self.number = number


class NotLinear(DrawingError):
    """This layer is bent for the slot."""

    def __init__(self, name):
        self.name = name


class NotSingle(DrawingError):
    """The effect has this number of gains, not one."""

    def __init__(self, count):
        self.count = count


class NoStep(DrawingError):
    """There is no step to undo or redo."""
