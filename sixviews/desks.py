"""Desks: drawings whose changes can be undone."""

from sixviews.drawings import Drawing
from sixviews.errors import BadCount, BadLine, DrawingError, NoStep, TooMany
from sixviews.journals import entry_in, parts_in
from sixviews.scripts import words_of

_MOST_DEPTH = 20
_MOST_LINES = 200


class Desk:
    """A drawing, the steps that can be undone and redone, and a journal."""

    def __init__(self):
        self.drawing = Drawing()
        self._depth = _MOST_DEPTH
        # Steps are tuples (name, sheet before, sheet afterwards); the last one is the next to undo or to redo.
        self._done = []
        self._undone = []
        self._entries = []

    @classmethod
    def read(cls, text):
        """A new desk on which the lines of the journal have been done."""
        desk = cls()
        lines = text.split("\n") if text != "" else []
        for at, line in enumerate(lines):
            _do_line(desk, at, line)
        return desk

    def journal(self):
        """The journal of the desk, a text."""
        # Written only here, since an ink may be too long for a text.
        return "\n".join([words_of(entry) for entry in self._entries])

    def slot(self, name, sheet):
        """Add a slot."""
        self._workplace().slot(name, sheet)
        self._enter(("slot", name, sheet))
        self._forget()

    def layer(self, name, deed):
        """Add a layer."""
        self._workplace().layer(name, deed)
        self._enter(("layer", name, *deed))
        self._forget()

    def put(self, name, sheet):
        """Replace the sheet of a slot and return the report."""
        workplace = self._workplace()
        before = workplace[name]
        report = workplace.change(name, sheet)
        self._enter(("put", name, sheet))
        self._done.append((name, before, sheet))
        self._undone = []
        self._trim()
        return report

    def undo(self):
        """Undo one step and return the report."""
        if not self._done:
            raise NoStep()
        self._enter(("undo",))
        step = self._done.pop()
        self._undone.append(step)
        name, before, _ = step
        return self.drawing.change(name, before)

    def redo(self):
        """Redo one step and return the report."""
        if not self._undone:
            raise NoStep()
        self._enter(("redo",))
        step = self._undone.pop()
        self._done.append(step)
        self._trim()
        name, _, afterwards = step
        return self.drawing.change(name, afterwards)

    @property
    def undoable(self):
        """The number of steps that can be undone."""
        return len(self._done)

    @property
    def redoable(self):
        """The number of steps that can be redone."""
        return len(self._undone)

    @property
    def depth(self):
        """How many steps can be undone at the most."""
        return self._depth

    @depth.setter
    def depth(self, value):
        self.set_depth(value)

    def set_depth(self, depth):
        """Let at most this number of steps be undone."""
        if not 1 <= depth <= _MOST_DEPTH:
            raise BadCount(depth)
        self._enter(("depth", depth))
        self._depth = depth
        self._trim()

    def _is_full(self):
        """True if the journal has as many lines as it may have."""
        return len(self._entries) >= _MOST_LINES

    def _workplace(self):
        """The drawing, or a copy if the journal is full: then a call may show its errors, but changes nothing."""
        return self.drawing.copied() if self._is_full() else self.drawing

    def _enter(self, entry):
        """Add a line to the journal."""
        if self._is_full():
            raise TooMany(_MOST_LINES)
        self._entries.append(entry)

    def _forget(self):
        """Forget all steps."""
        self._done = []
        self._undone = []

    def _trim(self):
        """Forget the oldest steps if there are more than can be undone."""
        self._done = self._done[-self._depth:]


def _do_line(desk, at, line):
    """Do the line of a journal with this index on the desk."""
    parts = parts_in(line)
    if parts is None:
        raise BadLine(at)
    try:
        _do(desk, entry_in(parts))
    except DrawingError as why:
        raise BadLine(at) from why


def _do(desk, entry):
    """Make the call of the entry on the desk."""
    word = entry[0]
    if word == "slot":
        desk.slot(entry[1], entry[2])
    elif word == "layer":
        desk.layer(entry[1], entry[2:])
    elif word == "put":
        desk.put(entry[1], entry[2])
    elif word == "depth":
        desk.set_depth(entry[1])
    elif word == "undo":
        desk.undo()
    else:
        desk.redo()
