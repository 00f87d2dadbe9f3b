"""Drawings: slots, and layers that follow from them."""

from sixviews.errors import BadDeed, BadName, NotLayer, NotSlot, TakenName, TooMany, UnknownName
from sixviews.layers import is_layer_deed, layer_made, names_in

_MOST_LETTERS = 8


class Drawing:
    """Named sheets: slots, whose sheets are given, and layers, whose sheets follow from deeds."""

    MOST = 12

    def __init__(self):
        # The two dicts are never changed, only replaced, so that a loop over the names may add a name.
        self._sheets = {}
        self._deeds = {}

    def slot(self, name, sheet):
        """Add a slot."""
        self._check_new(name)
        self._check_room()
        self._sheets = {**self._sheets, name: sheet}

    def layer(self, name, deed):
        """Add a layer."""
        self._check_new(name)
        if not is_layer_deed(deed):
            raise BadDeed(0)
        for used in names_in(deed):
            self.check_known(used)
        self._check_room()
        sheet = layer_made(deed, self._sheets, _itself)
        self._sheets = {**self._sheets, name: sheet}
        self._deeds = {**self._deeds, name: tuple(deed)}

    def change(self, name, sheet):
        """Replace the sheet of a slot and return the report."""
        return self._replaced({name: sheet})

    def fill(self, **sheets):
        """Replace the sheets of several slots at once and return the report."""
        return self._replaced(sheets)

    def __iter__(self):
        return iter(self._sheets)

    def __contains__(self, name):
        return name in self._sheets

    def __getitem__(self, at):
        self.check_known(at)
        return self._sheets[at]

    def __setitem__(self, at, worth):
        self.change(at, worth)

    @property
    def slots(self):
        """The names of the slots."""
        return tuple([name for name in self._sheets if name not in self._deeds])

    @property
    def layers(self):
        """The names of the layers."""
        return tuple(self._deeds)

    def deed(self, name):
        """The deed of a layer."""
        self.check_known(name)
        if name not in self._deeds:
            raise NotLayer(name)
        return self._deeds[name]

    def check_known(self, name):
        """Refuse a name that the drawing does not have."""
        if name not in self._sheets:
            raise UnknownName(name)

    def check_slot(self, name):
        """Refuse what is not the name of a slot."""
        self.check_known(name)
        if name in self._deeds:
            raise NotSlot(name)

    def copied(self):
        """Another drawing with the same names, deeds and sheets."""
        other = Drawing()
        other._sheets = self._sheets
        other._deeds = self._deeds
        return other

    def after(self, sheets):
        """The sheets of all names, a dict, as they are when those of some slots have been replaced."""
        for name in sheets:
            self.check_slot(name)
        made = {**self._sheets, **sheets}
        for name in self._deeds:
            made[name] = layer_made(self._deeds[name], made, _itself)
        return made

    def _replaced(self, sheets):
        """The report of the change after the sheets of some slots have been replaced."""
        before = self._sheets
        self._sheets = self.after(sheets)
        report = [(name, (self._sheets[name] - sheet).many) for name, sheet in before.items()]
        return [(name, cells) for name, cells in report if cells > 0]

    def _check_new(self, name):
        """Refuse a name that is not one, or that the drawing has."""
        if not 1 <= len(name) <= _MOST_LETTERS or not all(["a" <= letter <= "z" for letter in name]):
            raise BadName(name)
        if name in self._sheets:
            raise TakenName(name)

    def _check_room(self):
        """Refuse a further name if there are as many as there may be."""
        if len(self._sheets) >= Drawing.MOST:
            raise TooMany(Drawing.MOST)


def tried(drawing, name, **sheets):
    """The sheet that the name would have after the sheets of some slots have been replaced."""
    drawing.check_known(name)
    return drawing.after(sheets)[name]


def _itself(sheet):
    """The sheet itself."""
    return sheet
