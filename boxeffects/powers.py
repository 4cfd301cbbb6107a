"""Powers of forms of all kinds: what doing a form up to 10 ** 30 times does, without going through the times."""

from boxeffects.checks import need_contents, need_count, need_size
from boxeffects.errors import NoKind, NoPlace
from boxeffects.forms import both_forms, empty_form, name_of, need_form
from boxeffects.gauges import gauge_left
from boxeffects.heaps import heap_left, shift_of, told_heap_form
from boxeffects.kinds import is_number
from boxeffects.places import are_apart
from boxeffects.queuepowers import (
    MOST_TIMES,
    least_of_power,
    length_left,
    letters_left,
    queue_lasts,
)
from boxeffects.stackpowers import (
    further_words,
    said,
    stack_behind,
    stack_lasts,
    stack_letter,
    stack_power,
    stack_size,
)
from boxeffects.tables import behind_table, table_bears
from boxeffects.tapepowers import tape_behind, tape_lasts, tape_letter, tape_nowhere_from, tape_power

LETTER_KINDS = ("stack", "queue", "ring", "tape")


def need_power_form(kind, form, n):
    """Raise NoKind, NoForm and NoCount unless they are a kind, a form of it and a number of times."""
    need_form(kind, form)
    need_count(n, 1, MOST_TIMES)


def power_by_squares(kind, form, n):
    """Return the power of a form of a ring or a gauge, which never grows."""
    made = empty_form(kind)
    square = form
    left = n
    while left > 0:
        if left % 2 == 1:
            made = both_forms(kind, made, square)
        square = both_forms(kind, square, square)
        left = left // 2
    return made


def queue_power(form, n):
    """Return the power of a queue's form."""
    u, v, _ = form
    need_size(n * max(len(u), len(v)))
    return said(u, n), said(v, n), least_of_power(form, n)


def heap_power(form, n):
    """Return the power of a heap's form."""
    return told_heap_form([(k, n * s, max(b, b + (n - 1) * s)) for k, s, b in form[1]])


def power_of(kind, form, n):
    """Return the form of doing the form so many times, None if this is nowhere."""
    need_power_form(kind, form, n)
    return None if is_nowhere(kind, form, n) else made_power(kind, form, n)


def made_power(kind, form, n):
    """Return the power of what are known to be a form and a number of times, if it is not nowhere."""
    name = kind[0]
    if n == 1 or name == "table":
        return form
    if name == "stack":
        return stack_power(form, n)
    if name == "queue":
        return queue_power(form, n)
    if name == "tape":
        return tape_power(form, n)
    if name == "heap":
        return heap_power(form, n)
    return power_by_squares(kind, form, n)


def lengths_last(form, length):
    """Return how many times a ring's form can be done on contents of this length, None if for ever."""
    times = 0
    met = set()
    while form[length] is not None:
        if length in met:
            return None
        met.add(length)
        kept, word = form[length]
        length = kept + len(word)
        times += 1
    return times


def ring_nowhere_from(form):
    """Return the least number of times for which a ring's form works on no length, None if there is none."""
    lasts = [lengths_last(form, length) for length in range(len(form))]
    return None if None in lasts else max(lasts) + 1


def nowhere_from(kind, form):
    """Return the least number of times for which the power is None, None if there is none."""
    name = kind[0]
    if form is None:
        return 1
    if name == "stack":
        return 2 if further_words(form) is None else None
    if name == "ring":
        return ring_nowhere_from(form)
    if name == "tape":
        return tape_nowhere_from(form)
    if name == "table":
        return None if are_apart(form[0], form[1]) else 2
    if name == "gauge" and kind[2] == "fail" and form[1] != 0:
        return (form[2] - form[0]) // abs(form[1]) + 2
    return None


def is_nowhere(kind, form, n):
    """Tell whether the power is None, of what are known to be a form and a number of times."""
    first = nowhere_from(kind, form)
    return first is not None and n >= first


def is_power_nowhere(kind, form, n):
    """Tell whether the power is None, without making it."""
    need_power_form(kind, form, n)
    return is_nowhere(kind, form, n)


def repeats_of_bounded(kind, form):
    """Return from where on, and how often, the powers of a form of a ring or a gauge repeat."""
    known = {}
    power = form
    while power not in known:
        known[power] = len(known) + 1
        power = both_forms(kind, power, form)
    return known[power], len(known) + 1 - known[power]


def repeats_at(kind, form):
    """Return the least pair (i, p) for which the powers repeat from i on every p, None if they never do."""
    need_form(kind, form)
    if name_of(kind) in ("ring", "gauge"):
        return repeats_of_bounded(kind, form)
    first = nowhere_from(kind, form)
    if first is not None:
        return first, 1
    return (1, 1) if stays_itself(kind, form) else None


def stays_itself(kind, form):
    """Tell of a form that is never nowhere whether it is itself when it is done twice; otherwise it grows for ever."""
    name = kind[0]
    if name == "stack":
        return form[0] == form[1]
    if name == "tape":
        return form[0] == 0
    return name == "table" or form == empty_form(kind)


def gauge_lasts(kind, form, contents):
    """Return how many times a gauge's form that is not None can be done on the number, None if for ever."""
    low, s, high = form
    if kind[2] == "stop":
        return None
    if not low <= contents <= high:
        return 0
    if s == 0:
        return None
    return (high - contents if s > 0 else contents - low) // abs(s) + 1


def heap_lasts(form, many):
    """Return how many times a heap's form can be done on so many numbers, None if for ever."""
    shift = shift_of(form)
    if many < form[0]:
        return 0
    return None if shift >= 0 else (many - form[0]) // -shift + 1


def lasts_on(kind, form, contents):
    """Return how many times the form can be done on the contents, None if for ever."""
    name = kind[0]
    if form is None:
        return 0
    if name == "stack":
        return stack_lasts(form, contents)
    if name == "queue":
        return queue_lasts(form, contents)
    if name == "ring":
        return lengths_last(form, len(contents))
    if name == "tape":
        return tape_lasts(form, contents)
    if name == "heap":
        return heap_lasts(form, len(contents))
    if name == "gauge":
        return gauge_lasts(kind, form, contents)
    if not table_bears(form, contents):
        return 0
    return None if nowhere_from(kind, form) is None else 1


def lasting(kind, form, contents):
    """Return the greatest number of times for which the power works on the contents, None if for ever."""
    need_form(kind, form)
    need_contents(kind, contents)
    return lasts_on(kind, form, contents)


def works_behind(kind, form, n, contents):
    """Tell whether the power works on the contents."""
    need_power_form(kind, form, n)
    need_contents(kind, contents)
    lasts = lasts_on(kind, form, contents)
    return lasts is None or n <= lasts


def ring_behind(kind, form, n, contents):
    """Return what the power of a ring's form leaves where it works."""
    kept, word = power_by_squares(kind, form, n)[len(contents)]
    return contents[len(contents) - kept:] + word


def queue_behind(form, n, contents):
    """Return what the power of a queue's form leaves where it works."""
    many = length_left(form, n, contents)
    need_size(many)
    return letters_left(form, n, contents, 0, many)


def gauge_behind(kind, form, n, contents):
    """Return what the power of a gauge's form leaves where it works."""
    return gauge_left(kind, power_by_squares(kind, form, n), contents)


def size_behind(kind, form, n, contents):
    """Return how many letters or numbers are left, or where the head stands; None where the power does not work."""
    if not works_behind(kind, form, n, contents):
        return None
    name = kind[0]
    if name == "stack":
        return stack_size(form, n, contents)
    if name == "queue":
        return length_left(form, n, contents)
    if name == "ring":
        return len(ring_behind(kind, form, n, contents))
    if name == "tape":
        return form[0] * n
    if name == "heap":
        return len(contents) + shift_of(form) * n
    if name == "gauge":
        return gauge_behind(kind, form, n, contents)
    return len(behind_table(form, contents))


def letter_behind(kind, form, n, contents, place):
    """Return the letter at a place, None where the power does not work."""
    name = name_of(kind)
    if name not in LETTER_KINDS:
        raise NoKind(kind)
    works = works_behind(kind, form, n, contents)
    if not is_number(place) or (name != "tape" and place < 0):
        raise NoPlace(place)
    if not works:
        return None
    if name == "tape":
        return tape_letter(form, n, contents, place)
    if place >= size_behind(kind, form, n, contents):
        raise NoPlace(place)
    if name == "stack":
        return stack_letter(form, n, contents, place)
    if name == "queue":
        return letters_left(form, n, contents, place, 1)[0]
    return ring_behind(kind, form, n, contents)[place]


def left_behind(kind, form, n, contents):
    """Return what is left as a whole, None where the power does not work."""
    if not works_behind(kind, form, n, contents):
        return None
    name = kind[0]
    if name == "stack":
        return stack_behind(form, n, contents)
    if name == "queue":
        return queue_behind(form, n, contents)
    if name == "ring":
        return ring_behind(kind, form, n, contents)
    if name == "tape":
        return tape_behind(form, n, contents)
    if name == "heap":
        return heap_left(heap_power(form, n), contents)
    if name == "gauge":
        return gauge_behind(kind, form, n, contents)
    left = behind_table(form, contents)
    need_size(len(left))
    return left
