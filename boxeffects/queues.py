"""Queues: forms (u, v, d), doing one behind the other, short contents, sources and clashes."""

from boxeffects.checks import is_one_of, need_contents, need_count, need_row, need_size
from boxeffects.errors import NoCount, NoForm
from boxeffects.kinds import MOST_SIZE, is_between, is_word

QUEUE = ("queue",)


def match_lengths(pattern, text):
    """Return, for each place of the text, how many letters from there on begin the pattern."""
    # None stands between both: no match goes on over it, as no letter is None.
    both = pattern + (None,) + text
    lengths = [0] * len(both)
    begin = end = 0
    for at in range(1, len(both)):
        # both[begin:end] is the match found so far that ends last: within it the beginning is said again.
        length = min(end - at, lengths[at - begin]) if at < end else 0
        while at + length < len(both) and both[length] == both[at + length]:
            length += 1
        lengths[at] = length
        if at + length > end:
            begin, end = at, at + length
    return lengths[len(pattern) + 1:]


def is_fitting(u, v, d):
    """Tell whether any values are two words and a number up to the letters of the first one."""
    return is_word(u) and is_word(v) and is_between(d, 0, len(u))


def normal_from(u, v, d):
    """Return the least number from d on that is normal for the words."""
    lengths = match_lengths(v, u)
    least = d
    while least < len(u) and lengths[least] < len(u) - least:
        least += 1
    return least


def is_queue_form(value):
    """Tell whether any value is a triple of two words and a normal number."""
    if not isinstance(value, tuple) or len(value) != 3:
        return False
    u, v, d = value
    return is_fitting(u, v, d) and normal_from(u, v, d) == d


def need_queue_form(form):
    """Raise NoForm unless it is a form of a queue."""
    if not is_queue_form(form):
        raise NoForm(form)


def normal_least(u, v, d):
    """Return the normal number for d."""
    if not is_fitting(u, v, d):
        raise NoForm((u, v, d))
    return normal_from(u, v, d)


def queue_form(row):
    """Return the form of a row."""
    need_row(QUEUE, row)
    asked = []
    put = []
    least = 0
    for verb, letter in row:
        if verb == "put":
            put.append(letter)
        else:
            asked.append(letter)
            least = max(least, len(asked) - len(put))
    u = tuple(asked)
    v = tuple(put)
    return u, v, normal_from(u, v, least)


def queue_then(one, other):
    """Return the form that one form and then another one make."""
    need_queue_form(one)
    need_queue_form(other)
    return queue_both(one, other)


def queue_both(one, other):
    """Return the same of what are known to be forms."""
    u, v, d = one
    s, t, e = other
    need_size(max(len(u) + len(s), len(v) + len(t)))
    least = max(d, e + len(u) - len(v))
    return u + s, v + t, normal_from(u + s, v + t, least)


def queue_works(form, contents):
    """Tell whether the form works on the contents."""
    need_queue_form(form)
    need_contents(QUEUE, contents)
    return queue_bears(form, contents)


def queue_bears(form, contents):
    """Tell the same of contents of any size."""
    u, v, d = form
    return len(contents) >= d and (contents + v)[:len(u)] == u


def queue_left(form, contents):
    """Return what the form leaves of the contents, None where it does not work."""
    if not queue_works(form, contents):
        return None
    left = behind_queue(form, contents)
    need_size(len(left))
    return left


def behind_queue(form, contents):
    """Return what the form leaves of contents, of any size, on which it works."""
    u, v, _ = form
    return (contents + v)[len(u):]


def queue_shorts(form):
    """Return the list of the short contents, by length."""
    need_queue_form(form)
    u, v, d = form
    lengths = match_lengths(v, u)
    return [u[:many] for many in range(d, len(u)) if lengths[many] == len(u) - many]


def checked_sources(row, length):
    """Return the sources of all takes, in order, of what is found to be a row and a length."""
    need_row(QUEUE, row)
    need_count(length, 0, MOST_SIZE)
    puts = []
    sources = []
    for index, (verb, _) in enumerate(row):
        if verb == "put":
            puts.append(index)
            continue
        number = len(sources)
        if number < length:
            sources.append(("box", number))
        elif number - length < len(puts):
            sources.append(("put", puts[number - length]))
        else:
            sources.append(("empty",))
    return sources


def queue_source(row, length, number):
    """Return from where the take with this number has its letter."""
    sources = checked_sources(row, length)
    if not is_between(number, 0, len(sources) - 1):
        raise NoCount(number)
    return sources[number]


def queue_clashes(row, length):
    """Return the list of all clashes for a length, by their takes."""
    sources = checked_sources(row, length)
    takes = [index for index, step in enumerate(row) if step[0] == "take"]
    clashes = []
    for index, source in zip(takes, sources):
        if source[0] == "empty":
            clashes.append(("empty", index))
        elif source[0] == "put" and row[source[1]][1] != row[index][1]:
            clashes.append(("unlike", source[1], index))
    return clashes


def bears_length(row, length):
    """Tell whether the row works on some contents of this length."""
    return not queue_clashes(row, length)


def queue_clash(row, length):
    """Return the clash of the first take that has one, None if the row works on some contents of this length."""
    clashes = queue_clashes(row, length)
    return clashes[0] if clashes else None


def shows_queue_clash(row, length, value):
    """Tell whether any value is a clash of the row for this length."""
    return is_one_of(queue_clashes(row, length), value)
