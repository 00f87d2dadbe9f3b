"""Scripts: deeds that are done one after another."""

from sixviews.deeds import done
from sixviews.digits import number_in
from sixviews.errors import BadCount, BadDeed, BadLine, BadText, TooHeavy
from sixviews.sheets import Sheet

# How many parts the deed with this word has.
_PARTS = {"lay": 2, "sweep": 2, "turn": 2, "times": 2, "move": 3, "fold": 2}


class Script:
    """A list of deeds."""

    MOST = 40

    def __init__(self, deeds=()):
        for at, deed in enumerate(deeds):
            if not _is_deed(deed):
                raise BadDeed(at)
        if len(deeds) > Script.MOST:
            raise TooHeavy(len(deeds))
        self.deeds = tuple([tuple(deed) for deed in deeds])

    @classmethod
    def read(cls, text):
        """The script of which this is the text."""
        if text == "nothing":
            return cls()
        return cls([_deed_at(at, part) for at, part in enumerate(text.split("; "))])

    def text(self):
        """The text of the script."""
        if not self.deeds:
            return "nothing"
        return "; ".join([words_of(deed) for deed in self.deeds])

    def __iter__(self):
        return iter(self.deeds)

    def __call__(self, sheet):
        for deed in self.deeds:
            sheet = done(deed, sheet)
        return sheet

    def stages(self, sheet):
        """Yield the sheet itself and then the sheet after each deed."""
        yield sheet
        for deed in self.deeds:
            sheet = done(deed, sheet)
            yield sheet

    @property
    def is_plain(self):
        """True if the script has no deed "fold"."""
        return all([deed[0] != "fold" for deed in self.deeds])

    def __add__(self, other):
        if not isinstance(other, Script):
            return NotImplemented
        return Script(self.deeds + other.deeds)

    def __mul__(self, other):
        if not isinstance(other, int):
            return NotImplemented
        if not 0 <= other <= Script.MOST:
            raise BadCount(other)
        return Script(self.deeds * other)

    def __eq__(self, other):
        return isinstance(other, Script) and self.deeds == other.deeds


def words_of(deed):
    """The parts of a deed as words, joined by one space; sheets and scripts have their texts."""
    return " ".join([part.text() if isinstance(part, (Sheet, Script)) else str(part) for part in deed])


def _is_deed(deed):
    """True if it is a deed, as far as its parts have the kinds that they must have."""
    if len(deed) == 0 or deed[0] not in _PARTS or len(deed) != _PARTS[deed[0]]:
        return False
    return deed[0] not in ("turn", "fold") or 0 <= deed[1] <= 23


def _deed_at(at, text):
    """The deed with this text, which is the one with this index in its script."""
    try:
        deed = _deed_in(text)
    except BadText as why:
        raise BadLine(at) from why
    if deed is None:
        raise BadLine(at)
    return deed


def _deed_in(text):
    """The deed with this text, or None if it has not the form of a deed."""
    word, space, rest = text.partition(" ")
    if word in ("lay", "sweep") and space == " ":
        return (word, Sheet.read(rest))
    numbers = [number_in(part) for part in rest.split(" ")]
    deed = (word, *numbers)
    return deed if None not in numbers and _is_deed(deed) else None
