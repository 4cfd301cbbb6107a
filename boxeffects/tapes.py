"""Tapes: forms (s, expected, written), what is known behind them, what they need, where they agree, clashes."""

from boxeffects.boxes import told_tape
from boxeffects.checks import is_one_of, need_contents, need_row, need_size
from boxeffects.errors import NoForm, NoPlace
from boxeffects.kinds import are_pairs, is_number, is_pair
from boxeffects.places import can_lie, known_of, met_places, told_places

TAPE = ("tape",)


def is_tape_form(value):
    """Tell whether any value is None or a triple (s, expected, written)."""
    if value is None:
        return True
    if not isinstance(value, tuple) or len(value) != 3 or not is_number(value[0]):
        return False
    _, expected, written = value
    if not are_pairs(expected, is_number) or not are_pairs(written, is_number):
        return False
    letters = dict(expected)
    return not any([letters.get(place) == letter for place, letter in written])


def need_tape_form(form):
    """Raise NoForm unless it is a form of a tape."""
    if not is_tape_form(form):
        raise NoForm(form)


def tape_form(row):
    """Return the form of a row, None if it is nowhere."""
    need_row(TAPE, row)
    head = 0
    expected = {}
    written = {}
    for step in row:
        if step[0] == "left":
            head -= 1
        elif step[0] == "right":
            head += 1
        elif step[0] == "write":
            written[head] = step[1]
        elif not can_lie(expected, written, head, step[1]):
            return None
    return (head,) + told_places(expected, written)


def tape_then(one, other):
    """Return the form that one form and then another one make."""
    need_tape_form(one)
    need_tape_form(other)
    return tape_both(one, other)


def tape_both(one, other):
    """Return the same of what are known to be forms."""
    if one is None or other is None:
        return None
    s = one[0]
    expected = dict(one[1])
    written = dict(one[2])
    for place, letter in other[1]:
        if not can_lie(expected, written, place + s, letter):
            return None
    for place, letter in other[2]:
        written[place + s] = letter
    made = (s + other[0],) + told_places(expected, written)
    need_size(max(len(made[1]), len(made[2])))
    return made


def tape_works(form, contents):
    """Tell whether the form works on the contents."""
    need_tape_form(form)
    need_contents(TAPE, contents)
    return tape_bears(form, contents)


def tape_bears(form, contents):
    """Tell the same of contents of any size."""
    if form is None:
        return False
    pairs, rest = contents
    letters = dict(pairs)
    return all([letters.get(place, rest) == letter for place, letter in form[1]])


def tape_left(form, contents):
    """Return what the form leaves of the contents, None where it does not work."""
    if not tape_works(form, contents):
        return None
    left = behind_tape(form, contents)
    need_size(len(left[0]))
    return left


def behind_tape(form, contents):
    """Return what the form leaves of contents, of any size, on which it works."""
    s, _, written = form
    pairs, rest = contents
    letters = dict(pairs)
    letters.update(dict(written))
    return told_tape({place - s: letters[place] for place in letters}, rest)


def tape_known(form):
    """Return the pairs, seen from the head behind, that are known behind the form; None of None."""
    need_tape_form(form)
    if form is None:
        return None
    known = known_of(form[1], form[2])
    return tuple(sorted([(place - form[0], known[place]) for place in known]))


def are_wanted(value):
    """Tell whether any value is a list or tuple of pairs (place, letter), no place twice."""
    if not isinstance(value, (list, tuple)) or not all([is_pair(pair, is_number) for pair in value]):
        return False
    return len(set([place for place, _ in value])) == len(value)


def tape_needs(form, wanted):
    """Return the least pairs ahead so that the wanted letters lie behind, None if there are none."""
    need_tape_form(form)
    if not are_wanted(wanted):
        raise NoPlace(wanted)
    if form is None:
        return None
    s, expected, written = form
    known = known_of(expected, written)
    needs = dict(expected)
    for place, letter in wanted:
        if known.get(place + s, letter) != letter:
            return None
        # What is written needs nothing ahead.
        if place + s not in known:
            needs[place + s] = letter
    need_size(len(needs))
    return tuple(sorted(needs.items()))


def tapes_meet(one, other):
    """Return the pairs that all contents have on which both forms work, None if there are no such contents."""
    need_tape_form(one)
    need_tape_form(other)
    if one is None or other is None:
        return None
    letters = met_places(one[1], other[1])
    return None if letters is None else tuple(sorted(letters.items()))


def tapes_agree(one, other):
    """Tell whether both forms leave the same of all contents on which both work."""
    need_tape_form(one)
    need_tape_form(other)
    if one is None or other is None:
        return True
    left = met_places(one[1], other[1])
    if left is None:
        return True
    second = dict(left)
    left.update(dict(one[2]))
    second.update(dict(other[2]))
    return one[0] == other[0] and left == second


def heads_of(row):
    """Return the list of the places of the head ahead of each step."""
    heads = []
    head = 0
    for step in row:
        heads.append(head)
        if step[0] == "left":
            head -= 1
        elif step[0] == "right":
            head += 1
    return heads


def clashes_of_expect(row, heads, late):
    """Return the list of the clashes of an expect, the nearest step first."""
    clashes = []
    for early in range(late - 1, -1, -1):
        if heads[early] != heads[late] or row[early][0] not in ("write", "expect"):
            continue
        if row[early][1] != row[late][1]:
            clashes.append((early, late))
        if row[early][0] == "write":
            break
    return clashes


def tape_clashes(row):
    """Return the list of all clashes, by their expects, of each the nearest step first."""
    need_row(TAPE, row)
    heads = heads_of(row)
    clashes = []
    for late, step in enumerate(row):
        if step[0] == "expect":
            clashes.extend(clashes_of_expect(row, heads, late))
    return clashes


def tape_clash(row):
    """Return the told clash, None if the row is not nowhere."""
    clashes = tape_clashes(row)
    return clashes[0] if clashes else None


def accepts_clash(row, paper):
    """Tell whether any value is a clash of the row."""
    return is_one_of(tape_clashes(row), paper)
