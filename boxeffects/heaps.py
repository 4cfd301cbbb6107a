"""Heaps: forms (d, corners), what is left and taken, sure and risked numbers, told rows, least roads."""

from boxeffects.checks import need_contents, need_natural, need_row, need_size
from boxeffects.errors import NoForm, NoNumber, TooMany
from boxeffects.kinds import MOST_STEPS, is_between, is_number

HEAP = ("heap",)
GREATEST_STEP = 999
GREATEST = 1000


def told_heap_form(corners):
    """Return the form of these corners, a list: the last one tells d."""
    _, s, b = corners[-1]
    return b - s, tuple(corners)


def corner_by_steps(row, k):
    """Return the corner at a number k, or None, that the row's steps make."""
    s = b = 0
    for step in row:
        if step[0] == "least":
            s -= 1
            b = max(b - 1, 0)
        elif k is not None and step[1] <= k:
            s += 1
            b += 1
    return k, s, b


def heap_form(row):
    """Return the form of a row."""
    need_row(HEAP, row)
    numbers = sorted(set([step[1] for step in row if step[0] == "insert"]))
    return told_heap_form([corner_by_steps(row, k) for k in [None] + numbers])


def is_corner(value):
    """Tell whether any value is a triple of which s and b are numbers."""
    return isinstance(value, tuple) and len(value) == 3 and is_number(value[1]) and is_number(value[2])


def is_first_corner(corner):
    """Tell whether the corner can be the first one."""
    k, s, b = corner
    return k is None and s <= 0 and b == 0


def is_next_corner(ahead, corner):
    """Tell whether the corner, its k a number, can stand behind another one."""
    k, s, b = corner
    rises = ahead[0] is None or k > ahead[0]
    return rises and s > ahead[1] and ahead[2] <= b <= ahead[2] + s - ahead[1]


def is_heap_form(value):
    """Tell whether any value is a pair of d and the corners."""
    if not isinstance(value, tuple) or len(value) != 2:
        return False
    d, corners = value
    if not is_number(d) or not isinstance(corners, tuple) or not corners:
        return False
    if not all([is_corner(corner) for corner in corners]) or not is_first_corner(corners[0]):
        return False
    if not all([is_between(k, -GREATEST_STEP, GREATEST_STEP) for k, _, _ in corners[1:]]):
        return False
    if not all([is_next_corner(ahead, corner) for ahead, corner in zip(corners, corners[1:])]):
        return False
    _, s, b = corners[-1]
    return b >= s and d == b - s


def need_heap_form(form):
    """Raise NoForm unless it is a form of a heap."""
    if not is_heap_form(form):
        raise NoForm(form)


def need_heap(form, contents):
    """Raise NoForm and NoContents unless they are a form and a contents of a heap."""
    need_heap_form(form)
    need_contents(HEAP, contents)


def triples_at(corners, numbers):
    """Return the list of the triples that hold at numbers, which rise; the first one perhaps None."""
    triples = []
    at = 0
    for number in numbers:
        while at + 1 < len(corners) and number is not None and corners[at + 1][0] <= number:
            at += 1
        triples.append(corners[at])
    return triples


def numbers_of(corners):
    """Return the list of the numbers of all corners but the first one, which has none."""
    return [k for k, _, _ in corners[1:]]


def heap_then(one, other):
    """Return the form that one form and then another one make."""
    need_heap_form(one)
    need_heap_form(other)
    return heap_both(one, other)


def heap_both(one, other):
    """Return the same of what are known to be forms."""
    points = [None] + sorted(set(numbers_of(one[1]) + numbers_of(other[1])))
    corners = []
    for k, first, second in zip(points, triples_at(one[1], points), triples_at(other[1], points)):
        corners.append((k, first[1] + second[1], max(second[2], first[2] + second[1])))
    return told_heap_form(corners)


def works_on_many(form, many):
    """Tell whether the form works on contents of so many numbers."""
    return many >= form[0]


def shift_of(form):
    """Return by how much the form changes how many numbers there are."""
    return form[1][-1][1]


def leasts_of(form):
    """Return how many leasts each row of the form has."""
    return -form[1][0][1]


def heap_works(form, contents):
    """Tell whether the form works on the contents."""
    need_heap(form, contents)
    return works_on_many(form, len(contents))


def totals_of(contents):
    """Return the list of the pairs (number, n) of the numbers of contents, n of which are at most this number."""
    totals = []
    for many, number in enumerate(contents, start=1):
        if totals and totals[-1][0] == number:
            totals.pop()
        totals.append((number, many))
    return totals


def rises_of(form, totals):
    """Return the list of (number, n, s, b) for each number at which n, s or b rises, of contents with such totals."""
    corners = form[1]
    points = sorted(set([number for number, _ in totals] + numbers_of(corners)))
    rises = []
    at = many = 0
    for number, triple in zip(points, triples_at(corners, points)):
        if at < len(totals) and totals[at][0] == number:
            many = totals[at][1]
            at += 1
        rises.append((number, many, triple[1], triple[2]))
    return rises


def rising_numbers(totals):
    """Return the tuple of numbers of which so many in all are at most the number of each pair (number, total)."""
    numbers = []
    for number, total in totals:
        numbers.extend([number] * (total - len(numbers)))
    return tuple(numbers)


def left_totals(form, totals):
    """Return the pairs (number, how many are left that are at most this number), of contents with such totals."""
    return [(number, max(n + s, b)) for number, n, s, b in rises_of(form, totals)]


def heap_left(form, contents):
    """Return what the form leaves of the contents, None where it does not work."""
    if not heap_works(form, contents):
        return None
    need_size(len(contents) + shift_of(form))
    return rising_numbers(left_totals(form, totals_of(contents)))


def left_many(form, contents):
    """Return how many numbers are left, None where the form does not work."""
    return len(contents) + shift_of(form) if heap_works(form, contents) else None


def left_kth(form, contents, place):
    """Return the number at a place, from 0, of what is left, None where there is none."""
    need_heap(form, contents)
    need_natural(place)
    if not works_on_many(form, len(contents)):
        return None
    for number, total in left_totals(form, totals_of(contents)):
        if total > place:
            return number
    return None


def taken_by(form, contents):
    """Return what the form takes of the contents and of all that it inserts, None where it does not work."""
    if not heap_works(form, contents):
        return None
    leasts = leasts_of(form)
    need_size(leasts)
    rises = rises_of(form, totals_of(contents))
    return rising_numbers([(number, n + s + leasts - max(n + s, b)) for number, n, s, b in rises])


def count_behind(form, t, many):
    """Return how many numbers up to t there are behind the form, if there are so many ahead of it."""
    need_heap_form(form)
    if not is_between(t, -GREATEST, GREATEST):
        raise NoNumber(t)
    need_natural(many)
    _, s, b = triples_at(form[1], [t])[0]
    return max(many + s, b)


def sure_in(form):
    """Return the pairs (number, how many sure numbers are at most this one)."""
    return [(k, b) for k, _, b in form[1][1:]]


def risked_in(form):
    """Return the pairs (number, how many risked numbers are at most this one)."""
    leasts = leasts_of(form)
    return [(k, s + leasts - b) for k, s, b in form[1][1:]]


def all_numbers(totals):
    """Return the numbers of such pairs, if they are not more than let."""
    need_size(max([0] + [total for _, total in totals]))
    return rising_numbers(totals)


def sure_numbers(form):
    """Return the tuple of the inserted numbers that are left, whatever the contents were."""
    need_heap_form(form)
    return all_numbers(sure_in(form))


def risked_numbers(form):
    """Return the tuple of the other inserted numbers."""
    need_heap_form(form)
    return all_numbers(risked_in(form))


def inserts_of(numbers):
    """Return the tuple of the steps that insert these numbers."""
    return tuple([("insert", number) for number in numbers])


def heap_steps(form):
    """Return how many steps each row of the form has."""
    return shift_of(form) + 2 * leasts_of(form)


def heap_row(form):
    """Return the told row of what is known to be a form, however long it is."""
    leasts = (("least",),) * leasts_of(form)
    return inserts_of(rising_numbers(risked_in(form))) + leasts + inserts_of(rising_numbers(sure_in(form)))


def told_heap_row(form):
    """Return the told row of a form."""
    need_heap_form(form)
    if heap_steps(form) > MOST_STEPS:
        raise TooMany(MOST_STEPS)
    return heap_row(form)


def times_of(numbers):
    """Return the dict from the numbers to how often each of them stands there."""
    times = {}
    for number in numbers:
        times[number] = times.get(number, 0) + 1
    return times


def leasts_between(contents, other):
    """Return how many leasts are needed so that the other contents have all that is left."""
    times = times_of(other)
    for many in range(len(contents) - 1, -1, -1):
        number = contents[many]
        if times.get(number, 0) == 0:
            return many + 1
        times[number] -= 1
    return 0


def lacking(contents, other):
    """Return the list of the numbers that the other contents have beyond these, rising."""
    times = times_of(contents)
    numbers = []
    for number in other:
        if times.get(number, 0) > 0:
            times[number] -= 1
        else:
            numbers.append(number)
    return numbers


def least_road(contents, other):
    """Return the least row that leads from the contents to the other ones, None if there is none."""
    need_contents(HEAP, contents)
    need_contents(HEAP, other)
    leasts = leasts_between(contents, other)
    numbers = lacking(contents[leasts:], other)
    if not all([is_between(number, -GREATEST_STEP, GREATEST_STEP) for number in numbers]):
        return None
    if leasts + len(numbers) > MOST_STEPS:
        raise TooMany(MOST_STEPS)
    return (("least",),) * leasts + inserts_of(numbers)
