"""Queue powers: what doing a form of a queue up to 10 ** 30 times does, without writing it out."""

from boxeffects.checks import need_contents, need_count, need_size
from boxeffects.errors import NoPlace
from boxeffects.kinds import MOST_SIZE, is_number
from boxeffects.queues import QUEUE, match_lengths, need_queue_form

MOST_TIMES = 10 ** 30


def need_power(form, times):
    """Raise NoForm and NoCount unless they are a form and a number of times."""
    need_queue_form(form)
    need_count(times, 1, MOST_TIMES)


def letters_from(word, begin, many):
    """Return so many letters, from one on, of a word that is said again and again."""
    return tuple([word[at % len(word)] for at in range(begin, begin + many)])


def depth_of(form, times):
    """Return the least number of letters that are there for all takes, ahead of making it normal."""
    u, v, d = form
    return max(d, d + (times - 1) * (len(u) - len(v)))


def power_least(form, times):
    """Return the number D of the power."""
    need_power(form, times)
    return least_of_power(form, times)


def least_of_power(form, times):
    """Return the same of what is known to be a form and a number of times."""
    u, v, _ = form
    whole = len(u) * times
    if not u or not v:
        return whole
    # So many letters alike are alike for ever.
    enough = len(u) + len(v)
    lengths = match_lengths(letters_from(v, 0, enough), letters_from(u, 0, len(u) + enough))
    begin = depth_of(form, times)
    # What is alike for ever comes again with each u. What is not ends before enough letters, so it
    # bears the rest of the power only near its end.
    once = [k for k in range(begin, min(begin + len(u), whole)) if lengths[k % len(u)] >= enough]
    near = [k for k in range(max(begin, whole - enough), whole) if lengths[k % len(u)] >= whole - k]
    return min(once[:1] + near[:1] + [whole])


def alike_length(form, contents):
    """Return on how many letters the contents, then v again and again, are u again and again.

    None stands for all. The form has takes.
    """
    u, v, _ = form
    # So many letters of u and v alike are alike for ever; without v there are the contents alone.
    behind = len(u) + len(v) if v else 0
    reached = len(contents) + behind
    found = contents + letters_from(v, 0, behind)
    wanted = letters_from(u, 0, reached)
    for at in range(reached):
        if found[at] != wanted[at]:
            return at
    return None if v else reached


def bears(form, times, contents):
    """Tell whether the power works on the contents."""
    if not form[0]:
        return True
    if len(contents) < depth_of(form, times):
        return False
    alike = alike_length(form, contents)
    return alike is None or len(form[0]) * times <= alike


def length_left(form, times, contents):
    """Return how many letters the power leaves."""
    return len(contents) + times * (len(form[1]) - len(form[0]))


def letters_left(form, times, contents, begin, many):
    """Return so many letters, from one on, of what the power leaves."""
    u, v, _ = form
    first = len(u) * times + begin
    kept = contents[first:first + many]
    return kept + letters_from(v, max(first - len(contents), 0), many - len(kept))


def power_works(form, times, contents):
    """Tell whether the power works on the contents."""
    need_power(form, times)
    need_contents(QUEUE, contents)
    return bears(form, times, contents)


def power_length(form, times, contents):
    """Return how many letters the power leaves, None where it does not work."""
    if not power_works(form, times, contents):
        return None
    return length_left(form, times, contents)


def power_letter(form, times, contents, index):
    """Return the letter at an index of what the power leaves, None where it does not work."""
    need_power(form, times)
    need_contents(QUEUE, contents)
    if not is_number(index) or index < 0:
        raise NoPlace(index)
    if not bears(form, times, contents):
        return None
    if index >= length_left(form, times, contents):
        raise NoPlace(index)
    return letters_left(form, times, contents, index, 1)[0]


def power_left(form, times, contents):
    """Return what the power leaves, None where it does not work."""
    if not power_works(form, times, contents):
        return None
    many = length_left(form, times, contents)
    need_size(many)
    return letters_left(form, times, contents, 0, many)


def repeated_alike(word, times, other, more):
    """Tell whether a word so many times is another one so many times."""
    if len(word) * times != len(other) * more:
        return False
    if not word:
        return True
    many = len(word) + len(other)
    return letters_from(word, 0, many) == letters_from(other, 0, many)


def powers_alike(one, times, other, more):
    """Tell whether one form so many times and another one so many times are alike."""
    need_power(one, times)
    need_power(other, more)
    for word, second in zip(one[:2], other[:2]):
        if not repeated_alike(word, times, second, more):
            return False
    return least_of_power(one, times) == least_of_power(other, more)


def most_times(form, contents):
    """Return how many times the contents are borne at most, None if without end."""
    need_queue_form(form)
    need_contents(QUEUE, contents)
    return queue_lasts(form, contents)


def queue_lasts(form, contents):
    """Return the same of contents of any size."""
    u, v, d = form
    if not u:
        return None
    if len(contents) < d:
        return 0
    alike = alike_length(form, contents)
    bounds = []
    if alike is not None:
        bounds.append(alike // len(u))
    if len(u) > len(v):
        bounds.append((len(contents) - d) // (len(u) - len(v)) + 1)
    return min(bounds) if bounds else None


def endless_contents(form, length):
    """Return the word of this length that is borne without end, None if none or all are."""
    need_queue_form(form)
    need_count(length, 0, MOST_SIZE)
    u, v, d = form
    if not u or len(v) < len(u) or length < d:
        return None
    contents = letters_from(u, 0, length)
    return contents if alike_length(form, contents) is None else None
