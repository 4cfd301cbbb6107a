"""The errors of the package: each one keeps the value that it was made of."""


class BoxError(ValueError):
    """A value that is not what a call asks for; above all errors but TooMany."""

    def __init__(self, told):
        self.told = told


class TooMany(OverflowError):
    """What would be told is larger than the greatest number let."""

    def __init__(self, most):
        self.told = most
        self.most = most


class NoLetter(BoxError):
    """No letter, or no list or tuple of letters."""


class NoKind(BoxError):
    """No kind, or none of the kinds that the call takes."""


class NoStep(BoxError):
    """No step."""


class NoRow(BoxError):
    """No row of steps."""


class NoContents(BoxError):
    """No contents of a box."""


class NoForm(BoxError):
    """No form."""


class NoCount(BoxError):
    """No number within the bounds of what is counted."""


class NoBoxes(BoxError):
    """No boxes."""


class NoBox(BoxError):
    """No box of this name."""


class NoClass(BoxError):
    """No class of sizes."""


class NoProgram(BoxError):
    """No program."""


class NoPart(BoxError):
    """No part of this name."""


class NoPlace(BoxError):
    """No place, or one at which nothing stands."""


class NoNumber(BoxError):
    """No number within the bounds."""


class NoThing(BoxError):
    """Nothing that has a text."""


class NoWork(BoxError):
    """A row that does not work where it was to be done."""


class NothingBack(BoxError):
    """Nothing that can be taken back, or done again."""


class BadText(BoxError):
    """A text that does not fit."""


class NoLine(BoxError):
    """No line."""
