"""Blends: what scripts do to every sheet."""

from sixviews.deeds import done
from sixviews.errors import BadCount, BadTurning
from sixviews.sheets import Sheet, joined
from sixviews.turnings import Turning


class Blend:
    """Gives for each sheet the sum of its 24 gains, each swept with the turned sheet, plus the laid sheet."""

    def __init__(self, gains, laid):
        if len(gains) != 24:
            raise BadCount(len(gains))
        self.laid = laid
        self._gains = tuple(gains)
        self._pairs = tuple([(code, gain) for code, gain in enumerate(gains) if gain])

    @staticmethod
    def of_script(script):
        """The blend of a script."""
        blend = still_blend()
        for deed in script:
            blend = blend_behind(blend, deed)
        return blend

    @staticmethod
    def of_form(form):
        """The blend of a form."""
        return gathered_blend([(form.turning.code, form.gain)], form.laid)

    def __iter__(self):
        return iter(self._pairs)

    def __getitem__(self, at):
        if not 0 <= at <= 23:
            raise BadTurning(at)
        return self._gains[at]

    @property
    def many(self):
        """The number of the gains that are not blank."""
        return len(self._pairs)

    def __call__(self, sheet):
        parts = [gain * sheet.turned(Turning.coded(code)) for code, gain in self._pairs]
        return joined(self.laid, *parts)

    def __add__(self, other):
        if not isinstance(other, Blend):
            return NotImplemented
        return Blend([mine + its for mine, its in zip(self._gains, other._gains)], self.laid + other.laid)

    def then(self, other):
        """The blend that does this blend first and then the other one."""
        gains, laid = [], other.laid
        for code, gain in other:
            turning = Turning.coded(code)
            for its_code, its_gain in self._pairs:
                gains.append((Turning.coded(its_code).then(turning).code, gain * its_gain.turned(turning)))
            laid = laid + gain * self.laid.turned(turning)
        return gathered_blend(gains, laid)

    def __eq__(self, other):
        return isinstance(other, Blend) and self._gains == other._gains and self.laid == other.laid


def gathered_blend(pairs, laid):
    """The blend with these gains, given as tuples (code, gain); gains with the same code are added."""
    gains = [Sheet()] * 24
    for code, gain in pairs:
        gains[code] = gains[code] + gain
    return Blend(gains, laid)


def still_blend():
    """The blend that gives each sheet itself."""
    return gathered_blend([(0, Sheet.dot())], Sheet())


def blend_behind(blend, deed):
    """The blend that gives what the deed makes of the sheet that this blend gives."""
    gains = []
    for code, gain in blend:
        gains.extend(_gains_behind(deed, code, gain))
    return gathered_blend(gains, done(deed, blend.laid))


def _gains_behind(deed, code, gain):
    """The gains, as tuples (code, gain), that the deed makes of the gain with this code."""
    word = deed[0]
    if word == "lay":
        return [(code, gain)]
    if word not in ("turn", "fold"):
        return [(code, done(deed, gain))]
    turning = Turning.coded(deed[1])
    led = (Turning.coded(code).then(turning).code, gain.turned(turning))
    return [led] if word == "turn" else [(code, gain), led]
