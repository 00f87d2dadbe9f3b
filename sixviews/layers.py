"""The deeds of layers."""

from sixviews.deeds import done_to

# How many parts the deed with this word has.
_PARTS = {"sum": 3, "sweep": 3, "turn": 3, "times": 3, "move": 4, "script": 3}


def is_layer_deed(deed):
    """True if it is the deed of a layer, as far as its parts have the kinds that they must have."""
    if len(deed) == 0 or deed[0] not in _PARTS or len(deed) != _PARTS[deed[0]]:
        return False
    return deed[0] != "turn" or 0 <= deed[2] <= 23


def names_in(deed):
    """The one or two names in the deed, in their order."""
    return deed[1:3] if deed[0] in ("sum", "sweep") else deed[1:2]


def layer_made(deed, things, seen):
    """What the deed makes of the things that stand for the sheets of the names, a dict.

    `seen` tells for a sheet what stands for it.
    """
    word, first = deed[0], things[deed[1]]
    if word == "sum":
        return first + things[deed[2]]
    if word == "sweep":
        return first * things[deed[2]]
    if word == "script":
        for its_deed in deed[2]:
            first = done_to(its_deed, first, seen)
        return first
    return done_to(script_deed(deed), first, seen)


def script_deed(deed):
    """The deed of a script that does on a sheet what a deed "turn", "times" or "move" does on that of its name."""
    return (deed[0], *deed[2:])
