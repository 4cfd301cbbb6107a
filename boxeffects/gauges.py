"""Gauges: forms by stop and by fail, origins, stops and depths."""

from boxeffects.boxes import run_row
from boxeffects.checks import need_contents, need_kind, need_row
from boxeffects.errors import NoForm, NoKind, NoNumber
from boxeffects.kinds import is_between, is_number


def need_mode(kind, mode):
    """Raise NoKind unless it is a gauge of this mode."""
    need_kind(kind, "gauge")
    if kind[2] != mode:
        raise NoKind(kind)


def need_gauge_row(kind, row):
    """Raise NoKind unless it is a gauge, then NoRow unless it is a row of it."""
    need_kind(kind, "gauge")
    need_row(kind, row)


def is_gauge_form(kind, value):
    """Tell whether any value is a form of the gauge."""
    need_kind(kind, "gauge")
    _, capacity, mode = kind
    if value is None:
        return mode == "fail"
    if not isinstance(value, tuple) or len(value) != 3 or not all([is_number(part) for part in value]):
        return False
    low, s, high = value
    if not 0 <= low <= high <= capacity:
        return False
    if mode == "fail":
        return 0 <= low + s and high + s <= capacity
    if low == high:
        return s == 0
    return high - capacity <= s <= low


def need_gauge_form(kind, form):
    """Raise NoKind unless it is a gauge, then NoForm unless it is a form of it."""
    if not is_gauge_form(kind, form):
        raise NoForm(form)


def stopped(form, number):
    """Return to what a form by stop leads a number."""
    low, s, high = form
    return max(low, min(number + s, high))


def stop_both(one, other):
    """Return the form by stop that one form and then another one make."""
    low = stopped(other, one[0])
    high = stopped(other, one[2])
    return low, 0 if low == high else one[1] + other[1], high


def fail_both(one, other):
    """Return the form by fail that one form and then another one make."""
    if one is None or other is None:
        return None
    low = max(one[0], other[0] - one[1])
    high = min(one[2], other[2] - one[1])
    return (low, one[1] + other[1], high) if low <= high else None


def gauge_both(kind, one, other):
    """Return the form that one form and then another one make."""
    return stop_both(one, other) if kind[2] == "stop" else fail_both(one, other)


def shift_by(step):
    """Return by how much a step moves the gauge where nothing hinders it."""
    verb, amount = step
    return amount if verb == "add" else -amount


def step_form(kind, step):
    """Return the form of one step."""
    _, capacity, mode = kind
    shift = shift_by(step)
    if mode == "fail":
        return max(0, -shift), shift, capacity - max(0, shift)
    low = max(0, shift)
    high = capacity + min(0, shift)
    return low, 0 if low == high else shift, high


def gauge_form(kind, row):
    """Return the form of a row, None if it is nowhere."""
    need_gauge_row(kind, row)
    form = (0, 0, kind[1])
    for step in row:
        form = gauge_both(kind, form, step_form(kind, step))
    return form


def gauge_then(kind, one, other):
    """Return the form that one form and then another one make."""
    need_gauge_form(kind, one)
    need_gauge_form(kind, other)
    return gauge_both(kind, one, other)


def gauge_works(kind, form, contents):
    """Tell whether the form works on the contents."""
    need_gauge_form(kind, form)
    need_contents(kind, contents)
    return gauge_bears(kind, form, contents)


def gauge_bears(kind, form, contents):
    """Tell the same of what are known to be a form and contents."""
    if kind[2] == "stop":
        return True
    return form is not None and form[0] <= contents <= form[2]


def gauge_left(kind, form, contents):
    """Return what the form leaves of the contents, None where it does not work."""
    return behind_gauge(kind, form, contents) if gauge_works(kind, form, contents) else None


def behind_gauge(kind, form, contents):
    """Return what the form leaves of contents on which it works."""
    return stopped(form, contents) if kind[2] == "stop" else contents + form[1]


def gauge_origin(kind, form, number):
    """Return the pair of the first and the last contents that are led to the number, None if there are none."""
    need_gauge_form(kind, form)
    _, capacity, mode = kind
    if not is_between(number, 0, capacity):
        raise NoNumber(number)
    if form is None:
        return None
    low, s, high = form
    if mode == "fail":
        return (number - s, number - s) if low <= number - s <= high else None
    if not low <= number <= high:
        return None
    # What would go below the least or above the greatest number ends there, too.
    return 0 if number == low else number - s, capacity if number == high else number - s


def gauge_stops(kind, row, contents):
    """Return the list of the indexes of the steps that do not move the gauge by all of their number."""
    need_mode(kind, "stop")
    need_row(kind, row)
    need_contents(kind, contents)
    course = run_row(kind, row, contents)
    return [index for index, step in enumerate(row) if course[index + 1] - course[index] != shift_by(step)]


def gauge_depth(kind, row):
    """Return the pair of the least and the greatest sum of a row by fail."""
    need_mode(kind, "fail")
    need_row(kind, row)
    sums = [0]
    for step in row:
        sums.append(sums[-1] + shift_by(step))
    return min(sums), max(sums)
