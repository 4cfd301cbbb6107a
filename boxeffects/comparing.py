"""Comparing forms: less than one another, led back, shortest rows."""

from boxeffects.checks import need_row, need_size
from boxeffects.errors import NoForm, NoKind
from boxeffects.forms import empty_form, form_of, name_of, need_form
from boxeffects.heaps import heap_row, heap_steps
from boxeffects.places import back_places, has_places_back, less_places
from boxeffects.tables import row_of_table

# The told shortest rows that are nowhere; that of a gauge hangs on its capacity.
NOWHERE_ROWS = {
    "stack": (("push", "a"), ("pop", "b")),
    "tape": (("expect", "a"), ("expect", "b")),
    "table": (("absent", "a"), ("expect", "a", "a")),
}


def is_stack_less(one, other):
    """Tell whether some word stands below both words of the one form beyond those of the other form."""
    u, v = one
    s, t = other
    below = u[len(s):]
    return u == s + below and v == t + below


def is_form_less(kind, one, other):
    """Tell of what are known to be forms, neither of them None, whether the one is less than the other one."""
    name = kind[0]
    if name == "stack":
        return is_stack_less(one, other)
    if name == "queue":
        return one[:2] == other[:2] and one[2] >= other[2]
    if name == "ring":
        return all([item is None or item == second for item, second in zip(one, other)])
    if name == "tape":
        return one[0] == other[0] and less_places(one[1:], other[1:])
    if name == "table":
        return less_places(one, other)
    if name == "gauge" and kind[2] == "fail":
        return one[1] == other[1] and other[0] <= one[0] and one[2] <= other[2]
    return one == other


def is_less(kind, one, other):
    """Tell whether the other form works wherever the one does, and leaves the same there."""
    need_form(kind, one)
    need_form(kind, other)
    if one is None or other is None:
        return one is None
    return is_form_less(kind, one, other)


def are_comparable(kind, one, other):
    """Tell whether one form is less than the other one, or the other way round."""
    return is_less(kind, one, other) or is_less(kind, other, one)


def has_back(kind, form):
    """Tell whether some form works on just what the form leaves, and leads it back."""
    need_form(kind, form)
    name = kind[0]
    if form is None or name == "stack":
        return True
    if name == "tape":
        return has_places_back(form[1], form[2])
    if name == "table":
        return has_places_back(form[0], form[1])
    if name == "ring":
        return all([item is None or item == (length, ()) for length, item in enumerate(form)])
    if name == "gauge" and kind[2] == "fail":
        return True
    # All others lead several contents to one, but the form that leaves all as it is.
    return form == empty_form(kind)


def back_of(kind, form):
    """Return the back of a form."""
    if not has_back(kind, form):
        raise NoForm(form)
    name = kind[0]
    if form is None:
        return None
    if name == "stack":
        return form[1], form[0]
    if name == "tape":
        return back_of_tape(form)
    if name == "table":
        return back_places(form[0], form[1])
    if name == "gauge":
        low, s, high = form
        return low + s, -s, high + s
    return form


def back_of_tape(form):
    """Return the back of a tape's form that has one."""
    s = form[0]
    expected, written = back_places(form[1], form[2])
    return (-s, tuple([(place - s, letter) for place, letter in expected]),
            tuple([(place - s, letter) for place, letter in written]))


def walk_turns(form):
    """Return the pair of the length of a least walk over all places of a tape's form, and the places where it turns."""
    s, expected, written = form
    places = [0, s] + [place for place, _ in expected + written]
    low = min(places)
    high = max(places)
    by_low = (high - low) - low + (high - s)
    by_high = (high - low) + high + (s - low)
    return (by_low, (low, high, s)) if by_low <= by_high else (by_high, (high, low, s))


def steps_at_places(form):
    """Return the dict from the places of a tape's form to the list of the steps there."""
    steps = {}
    for place, letter in form[1]:
        steps[place] = [("expect", letter)]
    for place, letter in form[2]:
        steps[place] = steps.get(place, []) + [("write", letter)]
    return steps


def tape_row(form):
    """Return the shortest row of a tape's form that is not None."""
    waiting = steps_at_places(form)
    row = waiting.pop(0, [])
    head = 0
    for goal in walk_turns(form)[1]:
        move = 1 if goal > head else -1
        for place in range(head + move, goal + move, move):
            row.append(("right",) if move == 1 else ("left",))
            row.extend(waiting.pop(place, []))
        head = goal
    return tuple(row)


def queue_row(form):
    """Return the shortest row of a queue's form."""
    u, v, d = form
    row = [("take", letter) for letter in u[:d]]
    further = u[d:]
    for put, taken in zip(v, further):
        row.extend([("put", put), ("take", taken)])
    return tuple(row + [("put", letter) for letter in v[len(further):]])


def stack_row(form):
    """Return the shortest row of a stack's form that is not None."""
    u, v = form
    return tuple([("pop", letter) for letter in u] + [("push", letter) for letter in reversed(v)])


def gauge_moves(kind, form):
    """Return the list of the shifts of a gauge's shortest row, those of 0 too."""
    _, capacity, mode = kind
    if form is None:
        return [capacity, 1]
    low, s, high = form
    if mode == "stop" and low == high:
        return [-capacity] if low == 0 else [capacity, low - capacity]
    below, above = (low - s, capacity + s - high) if mode == "stop" else (low, capacity - high)
    down_first = [-below, below + above, s - above]
    up_first = [above, -below - above, s + below]
    return down_first if down_first.count(0) >= up_first.count(0) else up_first


def gauge_row(kind, form):
    """Return the shortest row of a gauge's form."""
    moves = [move for move in gauge_moves(kind, form) if move != 0]
    return tuple([("add", move) if move > 0 else ("sub", -move) for move in moves])


def need_told_rows(kind):
    """Raise NoKind for no kind, and for a ring, which has no told shortest rows."""
    if name_of(kind) == "ring":
        raise NoKind(kind)


def steps_of_form(kind, form):
    """Return how many steps the shortest rows of what is known to be a form have."""
    name = kind[0]
    if name == "gauge":
        return len(gauge_row(kind, form))
    if form is None:
        return len(NOWHERE_ROWS[name])
    if name == "heap":
        return heap_steps(form)
    if name == "tape":
        return len(form[1]) + len(form[2]) + walk_turns(form)[0]
    return len(form[0]) + len(form[1])


def shortest_steps(kind, form):
    """Return how many steps the shortest rows of the form have."""
    need_told_rows(kind)
    need_form(kind, form)
    return steps_of_form(kind, form)


def shortest_row(kind, form):
    """Return the told one of the shortest rows of the form."""
    need_size(shortest_steps(kind, form))
    name = kind[0]
    if name == "gauge":
        return gauge_row(kind, form)
    if form is None:
        return NOWHERE_ROWS[name]
    if name == "stack":
        return stack_row(form)
    if name == "queue":
        return queue_row(form)
    if name == "tape":
        return tape_row(form)
    if name == "heap":
        return heap_row(form)
    return row_of_table(form)


def is_shortest(kind, row):
    """Tell whether the row is a shortest one of its form."""
    need_told_rows(kind)
    need_row(kind, row)
    return len(row) == steps_of_form(kind, form_of(kind, row))
