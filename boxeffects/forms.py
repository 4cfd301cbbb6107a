"""Forms of all kinds: for each kind what the functions of its own file do."""

from boxeffects.checks import need_row
from boxeffects.errors import NoForm, NoKind
from boxeffects.gauges import gauge_both, gauge_form, gauge_left, gauge_works, is_gauge_form
from boxeffects.heaps import heap_both, heap_form, heap_left, heap_works, is_heap_form
from boxeffects.kinds import is_kind
from boxeffects.queues import is_queue_form, queue_both, queue_form, queue_left, queue_works
from boxeffects.rings import is_ring_form, ring_both, ring_form, ring_left, ring_works
from boxeffects.stacks import is_stack_form, stack_both, stack_form, stack_left, stack_works
from boxeffects.tables import is_table_form, table_both, table_form, table_left, table_works
from boxeffects.tapes import is_tape_form, tape_both, tape_form, tape_left, tape_works


def name_of(kind):
    """Return the first word of a kind; raise NoKind for no kind."""
    if not is_kind(kind):
        raise NoKind(kind)
    return kind[0]


def form_of(kind, row):
    """Return the form of a row of the kind, None if it is nowhere."""
    name = name_of(kind)
    if name == "stack":
        return stack_form(row)
    if name == "queue":
        return queue_form(row)
    if name == "ring":
        return ring_form(kind, row)
    if name == "tape":
        return tape_form(row)
    if name == "heap":
        return heap_form(row)
    if name == "gauge":
        return gauge_form(kind, row)
    return table_form(row)


def empty_form(kind):
    """Return the form of the row without steps."""
    return form_of(kind, ())


def is_form(kind, value):
    """Tell whether any value is a form of the kind."""
    name = name_of(kind)
    if name == "stack":
        return is_stack_form(value)
    if name == "queue":
        return is_queue_form(value)
    if name == "ring":
        return is_ring_form(kind, value)
    if name == "tape":
        return is_tape_form(value)
    if name == "heap":
        return is_heap_form(value)
    if name == "gauge":
        return is_gauge_form(kind, value)
    return is_table_form(value)


def need_form(kind, form):
    """Raise NoKind for no kind, then NoForm for no form of it."""
    if not is_form(kind, form):
        raise NoForm(form)


def both_forms(kind, one, other):
    """Return the form that one form and then another one make, of what are known to be forms."""
    name = kind[0]
    if name == "stack":
        return stack_both(one, other)
    if name == "queue":
        return queue_both(one, other)
    if name == "ring":
        return ring_both(one, other)
    if name == "tape":
        return tape_both(one, other)
    if name == "heap":
        return heap_both(one, other)
    if name == "gauge":
        return gauge_both(kind, one, other)
    return table_both(one, other)


def joined(kind, one, other):
    """Return the form that one form and then another one make."""
    need_form(kind, one)
    need_form(kind, other)
    return both_forms(kind, one, other)


def joined_all(kind, forms):
    """Return the form that all forms of a list or tuple make, joined from the left."""
    made = empty_form(kind)
    if not isinstance(forms, (list, tuple)):
        raise NoForm(None)
    for index, form in enumerate(forms):
        if not is_form(kind, form):
            raise NoForm(index)
    for form in forms:
        made = both_forms(kind, made, form)
    return made


def works_on(kind, form, contents):
    """Tell whether the form works on the contents."""
    name = name_of(kind)
    if name == "stack":
        return stack_works(form, contents)
    if name == "queue":
        return queue_works(form, contents)
    if name == "ring":
        return ring_works(kind, form, contents)
    if name == "tape":
        return tape_works(form, contents)
    if name == "heap":
        return heap_works(form, contents)
    if name == "gauge":
        return gauge_works(kind, form, contents)
    return table_works(form, contents)


def left_by(kind, form, contents):
    """Return what the form leaves of the contents, None where it does not work."""
    name = name_of(kind)
    if name == "stack":
        return stack_left(form, contents)
    if name == "queue":
        return queue_left(form, contents)
    if name == "ring":
        return ring_left(kind, form, contents)
    if name == "tape":
        return tape_left(form, contents)
    if name == "heap":
        return heap_left(form, contents)
    if name == "gauge":
        return gauge_left(kind, form, contents)
    return table_left(form, contents)


def rows_alike(kind, one, other):
    """Tell whether two rows of the kind have one effect."""
    need_row(kind, one)
    need_row(kind, other)
    return form_of(kind, one) == form_of(kind, other)
