"""Drawings for several tests, and what their layers must be by the words of point 58."""

import random

from sixviews.drawings import Drawing
from sixviews.scripts import Script
from sixviews.sheets import Sheet, sweep_of
from sixviews.turnings import Turning
from tests.helpers import some_rows
from tests.test_scripts import by_words

NAMES = ["a", "bb", "slot", "layer", "name", "drawing", "sheets", "abcdefgh", "zzzzzzzz", "sum", "q", "nothing"]
SCRIPTS = [
    "nothing", "fold 3; lay 0,0,d:1", "turn 7; times -2; move 1 -1", "lay 1,0,e:1; turn 12", "sweep 0,0,e:1; fold 13",
    "times 0; lay 2,2,u:1",
]


def small(seed):
    """A small sheet, the same one for the same seed."""
    return Sheet(some_rows(seed, 2, 1))


def by_the_table(deed, sheets):
    """The sheet of the layer with this deed, from the sheets of the names, a dict."""
    word, first = deed[0], sheets[deed[1]]
    if word == "sum":
        return first + sheets[deed[2]]
    if word == "sweep":
        return sweep_of(first, sheets[deed[2]])
    if word == "turn":
        return first.turned(Turning.coded(deed[2]))
    if word == "times":
        return first * deed[2]
    if word == "move":
        return first.moved(deed[2], deed[3])
    for its_deed in deed[2].deeds:
        first = by_words(its_deed, first)
    return first


def all_sheets(drawing, changes):
    """The sheets of all names, if the slots had those of the changes, each layer made by its deed."""
    sheets = {}
    for name in drawing:
        if name in drawing.slots:
            sheets[name] = changes.get(name, drawing[name])
        else:
            sheets[name] = by_the_table(drawing.deed(name), sheets)
    return sheets


def some_deed(dice, names):
    """The deed of a layer that uses these names."""
    word = dice.choice(["sum", "sum", "sweep", "turn", "times", "move", "script"])
    first = dice.choice(names)
    if word in ("sum", "sweep"):
        return (word, first, dice.choice(names))
    if word == "turn":
        return (word, first, dice.randint(0, 23))
    if word == "times":
        return (word, first, dice.choice([-2, -1, 0, 1, 3]))
    if word == "move":
        return (word, first, dice.randint(-2, 2), dice.randint(-2, 2))
    return (word, first, Script.read(dice.choice(SCRIPTS)))


def some_drawing(seed, many=9):
    """A drawing with slots and layers, the same one for the same seed; no layer is far too large."""
    dice = random.Random(seed)
    drawing = Drawing()
    names = []
    for at, name in enumerate(NAMES[:many]):
        if at < 2 or dice.random() < 0.2:
            drawing.slot(name, small(100 * seed + at))
        else:
            deed = some_deed(dice, names)
            while by_the_table(deed, {known: drawing[known] for known in names}).many > 60:
                deed = ("turn", dice.choice(names), dice.randint(0, 11))
            drawing.layer(name, deed)
        names.append(name)
    return drawing


def state_of(drawing):
    """All that a drawing tells."""
    deeds = {name: drawing.deed(name) for name in drawing.layers}
    return (list(drawing), drawing.slots, drawing.layers, deeds, {name: list(drawing[name]) for name in drawing})
