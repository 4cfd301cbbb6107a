"""Running: what forms of boxes, and their powers, do to contents of any size, also to far more than is told.

Between two forms a box stands as a *state*: of a heap the list of its totals (see heaps.py), as it can have far too
many numbers to be written out; of every other kind its contents.
"""

from boxeffects.checks import need_size
from boxeffects.gauges import behind_gauge
from boxeffects.heaps import left_totals, rising_numbers, totals_of
from boxeffects.kinds import measured
from boxeffects.powers import heap_lasts, is_nowhere, lasts_on, made_power
from boxeffects.queues import behind_queue
from boxeffects.rings import behind_ring
from boxeffects.stacks import behind_stack
from boxeffects.tables import behind_table
from boxeffects.tapes import behind_tape


def state_of(kind, contents):
    """Return the state of a box with these contents."""
    return totals_of(contents) if kind == ("heap",) else contents


def states_of(kinds, contents):
    """Return the list of the states of all boxes."""
    return [state_of(kind, part) for kind, part in zip(kinds, contents)]


def many_in(totals):
    """Return how many numbers a heap with these totals has."""
    return totals[-1][1] if totals else 0


def told_contents(kind, state):
    """Return the contents of a box in this state."""
    need_size(many_in(state) if kind == ("heap",) else measured(kind, state))
    return rising_numbers(state) if kind == ("heap",) else state


def all_told(kinds, states):
    """Return the tuple of the contents of all boxes."""
    return tuple([told_contents(kind, state) for kind, state in zip(kinds, states)])


def state_behind(kind, form, state):
    """Return the state behind a form that works on this one."""
    name = kind[0]
    if name == "stack":
        return behind_stack(form, state)
    if name == "queue":
        return behind_queue(form, state)
    if name == "ring":
        return behind_ring(form, state)
    if name == "tape":
        return behind_tape(form, state)
    if name == "heap":
        return left_totals(form, state)
    if name == "gauge":
        return behind_gauge(kind, form, state)
    return behind_table(form, state)


def states_behind(kinds, form, states):
    """Return the list of the states behind a mixed form that works on these."""
    return [state_behind(kind, part, state) for kind, part, state in zip(kinds, form, states)]


def box_lasts(kind, form, state):
    """Return how many times a form can be done on this state, None if for ever."""
    return heap_lasts(form, many_in(state)) if kind == ("heap",) else lasts_on(kind, form, state)


def mixed_lasts(kinds, form, states):
    """Return how many times a mixed form can be done on these states, None if for ever."""
    if form is None:
        return 0
    lasts = [box_lasts(kind, part, state) for kind, part, state in zip(kinds, form, states)]
    return min([times for times in lasts if times is not None], default=None)


def mixed_power(kinds, form, times):
    """Return the power of a mixed form, None if that of one box is, whatever the others."""
    if form is None or times == 1:
        return form
    if any([is_nowhere(kind, part, times) for kind, part in zip(kinds, form)]):
        return None
    return tuple([made_power(kind, part, times) for kind, part in zip(kinds, form)])
