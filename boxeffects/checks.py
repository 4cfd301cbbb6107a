"""What the functions of the package ask of their arguments, in one place."""

from boxeffects.errors import NoContents, NoCount, NoKind, NoRow, TooMany
from boxeffects.kinds import MOST_SIZE, is_between, is_contents, is_kind, is_number, is_row


def need_kind(kind, name):
    """Raise NoKind unless it is a kind of this name."""
    if not is_kind(kind) or kind[0] != name:
        raise NoKind(kind)


def need_row(kind, row):
    """Raise NoKind for no kind, then NoRow for no row of it."""
    if not is_row(kind, row):
        raise NoRow(row)


def need_contents(kind, contents):
    """Raise NoKind for no kind, then NoContents for no contents of it."""
    if not is_contents(kind, contents):
        raise NoContents(contents)


def need_count(count, least, most):
    """Raise NoCount unless it is a number from least to most."""
    if not is_between(count, least, most):
        raise NoCount(count)


def need_natural(count):
    """Raise NoCount unless it is a number of at least 0."""
    if not is_number(count) or count < 0:
        raise NoCount(count)


def need_size(many):
    """Raise TooMany if what is told would have more letters, numbers or pairs than let."""
    if many > MOST_SIZE:
        raise TooMany(MOST_SIZE)


def is_one_of(clashes, value):
    """Tell whether any value is one of the clashes, tuples of texts and numbers."""
    # Other parts are not compared: True and False would pass for 1 and 0.
    if not isinstance(value, tuple) or not all([is_number(part) or isinstance(part, str) for part in value]):
        return False
    return value in clashes
