"""Stack powers: what doing a form of a stack up to 10 ** 30 times does, without writing it out.

Forms here are not None. A form that has all powers asks one more word below for each further time, or puts
one more word below what it put first.
"""

from boxeffects.checks import need_size
from boxeffects.stacks import begins_with


def said(word, times):
    """Return the word so many times, however many times nothing is said."""
    return word * times if word else ()


def further_words(form):
    """Return the pair of the words that are asked and put for each further time, None if it can be done but once."""
    u, v = form
    if begins_with(v, u):
        return (), v[len(u):]
    if begins_with(u, v):
        return u[len(v):], ()
    return None


def stack_power(form, times):
    """Return the power of a form that has all powers."""
    u, v = form
    asked, put = further_words(form)
    more = times - 1
    need_size(max(len(u) + len(asked) * more, len(v) + len(put) * more))
    return u + said(asked, more), v + said(put, more)


def stack_lasts(form, contents):
    """Return how many times the form can be done on the contents, None if for ever."""
    u = form[0]
    if not begins_with(contents, u):
        return 0
    further = further_words(form)
    if further is None:
        return 1
    asked = further[0]
    if not asked:
        return None
    times = 1
    at = len(u)
    while contents[at:at + len(asked)] == asked:
        times += 1
        at += len(asked)
    return times


def stack_size(form, times, contents):
    """Return how many letters are left, where the power works."""
    u, v = form
    return len(contents) + times * (len(v) - len(u))


def stack_letter(form, times, contents, place):
    """Return the letter at a place that stands, where the power works."""
    u, v = form
    asked, put = further_words(form) or ((), ())
    if place < len(v):
        return v[place]
    place -= len(v)
    if place < len(put) * (times - 1):
        return put[place % len(put)]
    return contents[len(u) + (len(asked) - len(put)) * (times - 1) + place]


def stack_behind(form, times, contents):
    """Return what is left, where the power works."""
    need_size(stack_size(form, times, contents))
    u, v = form
    asked, put = further_words(form) or ((), ())
    return v + said(put, times - 1) + contents[len(u) + len(asked) * (times - 1):]
