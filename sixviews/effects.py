"""The effects of the slots of a drawing at its names."""

from sixviews.blends import Blend, blend_behind, gathered_blend, still_blend
from sixviews.errors import NotLinear, NotSingle
from sixviews.layers import names_in, script_deed
from sixviews.quotients import quotient
from sixviews.sheets import Sheet
from sixviews.turnings import Turning


def effect_of(drawing, slot, name):
    """The effect of the slot at the name, a blend."""
    drawing.check_slot(slot)
    drawing.check_known(name)
    way = _way_to(drawing, name)
    depending = _depending(drawing, slot)
    for layer in way:
        if _is_bent(drawing.deed(layer), depending):
            raise NotLinear(layer)
    effects = {slot: still_blend()}
    for layer in way:
        if layer in depending:
            effects[layer] = _effect_at(drawing, drawing.deed(layer), effects)
    return _effect_or_sheet(drawing, name, effects)


def unseen(drawing, slot, name, sheet):
    """True if adding the sheet to that of the slot does not change that of the name."""
    effect = effect_of(drawing, slot, name)
    change = gathered_blend(list(effect), Sheet())
    return not change(sheet)


def told_back(drawing, slot, name, sheet):
    """The sheet that the slot must have so that the name has the sheet."""
    effect = effect_of(drawing, slot, name)
    if effect.many != 1:
        raise NotSingle(effect.many)
    code, gain = list(effect)[0]
    return quotient(sheet - effect.laid, gain).turned(Turning.coded(code).back())


def _way_to(drawing, name):
    """The layers on the way to the name, itself included, in the order of the names."""
    used = {name: True}
    for layer in drawing.layers[::-1]:
        if layer in used:
            for its_name in names_in(drawing.deed(layer)):
                used[its_name] = True
    return [layer for layer in drawing.layers if layer in used]


def _depending(drawing, slot):
    """The names that depend on the slot, the keys of a dict."""
    found = {slot: True}
    for layer in drawing.layers:
        if any([name in found for name in names_in(drawing.deed(layer))]):
            found[layer] = True
    return found


def _is_bent(deed, depending):
    """True if the deed sweeps two names that both depend on the slot."""
    return deed[0] == "sweep" and all([name in depending for name in names_in(deed)])


def _effect_at(drawing, deed, effects):
    """The effect at the layer with this deed, from those at the names before it that depend on the slot."""
    word, first = deed[0], deed[1]
    if word == "sum":
        mine, its = [_effect_or_sheet(drawing, name, effects) for name in names_in(deed)]
        return mine + its
    if word == "sweep":
        bound, free = (first, deed[2]) if first in effects else (deed[2], first)
        return blend_behind(effects[bound], ("sweep", drawing[free]))
    if word == "script":
        return effects[first].then(Blend.of_script(deed[2]))
    return blend_behind(effects[first], script_deed(deed))


def _effect_or_sheet(drawing, name, effects):
    """The effect at the name, which is its sheet alone if it does not depend on the slot."""
    return effects[name] if name in effects else gathered_blend([], drawing[name])
