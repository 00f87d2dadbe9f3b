"""Forms: what plain scripts do to every sheet."""

from sixviews.deeds import done
from sixviews.erasers import eraser
from sixviews.errors import NotPlain
from sixviews.sheets import Sheet
from sixviews.turnings import Turning


class Form:
    """Gives for each sheet the gain swept with the turned sheet, plus the laid sheet."""

    def __init__(self, turning, gain, laid):
        self.turning = turning if gain else Turning()
        self.gain = gain
        self.laid = laid

    @staticmethod
    def of_script(script):
        """The form of a plain script."""
        for at, deed in enumerate(script):
            if deed[0] == "fold":
                raise NotPlain(at)
        form = Form(Turning(), Sheet.dot(), Sheet())
        for deed in script:
            form = _form_behind(form, deed)
        return form

    def __call__(self, sheet):
        return self.gain * sheet.turned(self.turning) + self.laid

    def then(self, other):
        """The form that does this form first and then the other one."""
        gain = other.gain * self.gain.turned(other.turning)
        laid = other.gain * self.laid.turned(other.turning)
        return Form(self.turning.then(other.turning), gain, laid + other.laid)

    def back(self):
        """The form that gives the sheet back."""
        undoing = eraser(self.gain)
        laid = undoing * self.laid
        turning = self.turning.back()
        return Form(turning, undoing.turned(turning), -laid.turned(turning))

    def __eq__(self, other):
        return (
            isinstance(other, Form) and self.turning == other.turning and self.gain == other.gain
            and self.laid == other.laid
        )


def _form_behind(form, deed):
    """The form that gives what the deed, no fold, makes of the sheet that this form gives."""
    if deed[0] == "lay":
        return Form(form.turning, form.gain, done(deed, form.laid))
    turning = form.turning.then(Turning.coded(deed[1])) if deed[0] == "turn" else form.turning
    gain = done(deed, form.gain)
    return Form(turning, gain, done(deed, form.laid))
