"""The lines of the journal of a desk, as they are read."""

from sixviews.digits import number_in
from sixviews.scripts import Script
from sixviews.sheets import Sheet

# The kinds of the words of a line, and those behind the word of a layer's deed; the last one takes the rest of the
# line.
_LINES = {
    "slot": ("word", "word", "sheet"),
    "put": ("word", "word", "sheet"),
    "undo": ("word",),
    "redo": ("word",),
    "depth": ("word", "number"),
}
_DEEDS = {
    "sum": ("word", "word"),
    "sweep": ("word", "word"),
    "turn": ("word", "number"),
    "times": ("word", "number"),
    "move": ("word", "number", "number"),
    "script": ("word", "script"),
}


def parts_in(line):
    """The parts of the line as tuples (kind, text), or None if the line has not the form of a journal's line."""
    kinds = _kinds_in(line)
    if kinds is None:
        return None
    texts = line.split(" ", len(kinds) - 1)
    parts = list(zip(kinds, texts))
    if len(texts) < len(kinds) or not all([_fits(kind, text) for kind, text in parts]):
        return None
    return parts


def entry_in(parts):
    """The call that these parts of a line tell, a tuple; raises the errors of its sheet or its script."""
    return tuple([_read(kind, text) for kind, text in parts])


def _kinds_in(line):
    """The kinds of the words of a line that begins like this one, or None if there is no such line."""
    words = line.split(" ")
    if words[0] == "layer" and len(words) > 2 and words[2] in _DEEDS:
        return ("word", "word", "word") + _DEEDS[words[2]]
    return _LINES[words[0]] if words[0] in _LINES else None


def _fits(kind, text):
    """True if the text may stand where this kind of word is meant."""
    if kind == "word":
        return text != "" and " " not in text
    return kind != "number" or number_in(text) is not None


def _read(kind, text):
    """What the text of this kind tells."""
    if kind == "number":
        return number_in(text)
    if kind == "sheet":
        return Sheet.read(text)
    return Script.read(text) if kind == "script" else text
