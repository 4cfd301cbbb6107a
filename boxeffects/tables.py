"""Tables: forms (expected, written), what is common to them, changing places, told rows."""

from boxeffects.checks import need_contents, need_row, need_size
from boxeffects.errors import NoForm, TooMany
from boxeffects.kinds import MOST_SIZE, MOST_STEPS, is_ascending, is_letter
from boxeffects.places import can_lie, met_places, told_places

TABLE = ("table",)


def is_entry(value):
    """Tell whether any value is a pair of a name and a letter or None."""
    if not isinstance(value, tuple) or len(value) != 2 or not is_letter(value[0]):
        return False
    return value[1] is None or is_letter(value[1])


def are_entries(value):
    """Tell whether any value is a tuple of told size of such pairs, names ascending."""
    if not isinstance(value, tuple) or len(value) > MOST_SIZE:
        return False
    return all([is_entry(pair) for pair in value]) and is_ascending([name for name, _ in value])


def is_table_form(value):
    """Tell whether any value is None or a pair (expected, written)."""
    if value is None:
        return True
    if not isinstance(value, tuple) or len(value) != 2 or not all([are_entries(part) for part in value]):
        return False
    expected = dict(value[0])
    return not any([name in expected and expected[name] == what for name, what in value[1]])


def need_table_form(form):
    """Raise NoForm unless it is a form of a table."""
    if not is_table_form(form):
        raise NoForm(form)


def table_form(row):
    """Return the form of a row, None if it is nowhere."""
    need_row(TABLE, row)
    expected = {}
    written = {}
    for step in row:
        name = step[1]
        what = step[2] if len(step) == 3 else None
        if step[0] in ("set", "clear"):
            written[name] = what
        elif not can_lie(expected, written, name, what):
            return None
    return told_places(expected, written)


def need_pairs_let(form):
    """Raise TooMany if one tuple of the form has more pairs than let."""
    if form is not None:
        need_size(max(len(form[0]), len(form[1])))


def table_then(one, other):
    """Return the form that one form and then another one make."""
    need_table_form(one)
    need_table_form(other)
    return table_both(one, other)


def table_both(one, other):
    """Return the same of what are known to be forms."""
    made = table_made(one, other)
    need_pairs_let(made)
    return made


def table_made(one, other):
    """Return the same, however many pairs it has."""
    if one is None or other is None:
        return None
    expected = dict(one[0])
    written = dict(one[1])
    for name, what in other[0]:
        if not can_lie(expected, written, name, what):
            return None
    written.update(dict(other[1]))
    return told_places(expected, written)


def table_common(one, other):
    """Return the form that expects what either form does and writes nothing, None if there is none."""
    need_table_form(one)
    need_table_form(other)
    if one is None or other is None:
        return None
    met = met_places(one[0], other[0])
    if met is None:
        return None
    need_size(len(met))
    return tuple(sorted(met.items())), ()


def can_change_places(one, other):
    """Tell whether both forms make one form in either order."""
    need_table_form(one)
    need_table_form(other)
    return table_made(one, other) == table_made(other, one)


def table_works(form, contents):
    """Tell whether the form works on the contents."""
    need_table_form(form)
    need_contents(TABLE, contents)
    return table_bears(form, contents)


def table_bears(form, contents):
    """Tell the same of contents of any size."""
    if form is None:
        return False
    letters = dict(contents)
    return all([letters.get(name) == what for name, what in form[0]])


def table_left(form, contents):
    """Return what the form leaves of the contents, None where it does not work."""
    if not table_works(form, contents):
        return None
    left = behind_table(form, contents)
    need_size(len(left))
    return left


def behind_table(form, contents):
    """Return what the form leaves of contents, of any size, on which it works."""
    letters = dict(contents)
    letters.update(dict(form[1]))
    return tuple(sorted([(name, letters[name]) for name in letters if letters[name] is not None]))


def table_row(form):
    """Return the told row of a form that is not None."""
    if form is None or not is_table_form(form):
        raise NoForm(form)
    if len(form[0]) + len(form[1]) > MOST_STEPS:
        raise TooMany(MOST_STEPS)
    return row_of_table(form)


def row_of_table(form):
    """Return the same, however long it is."""
    expected, written = form
    asked = [("absent", name) if what is None else ("expect", name, what) for name, what in expected]
    made = [("clear", name) if what is None else ("set", name, what) for name, what in written]
    return tuple(asked + made)
