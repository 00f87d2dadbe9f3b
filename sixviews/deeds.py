"""What the deeds of scripts do."""

from sixviews.turnings import Turning


def done(deed, sheet):
    """The sheet that the deed gives for the sheet."""
    return done_to(deed, sheet, lambda its_sheet: its_sheet)


def done_to(deed, thing, seen):
    """What the deed makes of a thing that stands for a sheet; `seen` tells for a sheet what stands for it."""
    word, part = deed[0], deed[1]
    if word == "lay":
        return thing + seen(part)
    if word == "sweep":
        return thing * seen(part)
    if word == "times":
        return thing * part
    if word == "move":
        return thing.moved(part, deed[2])
    turned = thing.turned(Turning.coded(part))
    return turned if word == "turn" else thing + turned
