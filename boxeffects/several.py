"""Several boxes: mixed rows, their forms, the same but for order."""

from boxeffects.boxes import run_row
from boxeffects.checks import need_size
from boxeffects.errors import NoBox, NoBoxes, NoContents, NoForm, NoRow, TooMany
from boxeffects.forms import both_forms, empty_form, form_of, is_form, left_by, works_on
from boxeffects.kinds import (
    MOST_SIZE,
    MOST_STEPS,
    fits_step,
    is_between,
    is_contents,
    is_kind,
    is_letter,
    measured,
)

MOST_BOXES = 6


class Boxes:
    """One to six boxes: pairs of a name and a kind, in an order."""

    def __init__(self, pairs):
        if not isinstance(pairs, (list, tuple)) or not 1 <= len(pairs) <= MOST_BOXES:
            raise NoBoxes(None)
        kinds = {}
        for index, pair in enumerate(pairs):
            if not is_box(pair) or pair[0] in kinds:
                raise NoBoxes(index)
            kinds[pair[0]] = pair[1]
        self._kinds = kinds

    def names(self):
        """Return the list of the names, in order."""
        return list(self._kinds)

    def kind_of(self, name):
        """Return the kind of the box of this name."""
        if not is_letter(name) or name not in self._kinds:
            raise NoBox(name)
        return self._kinds[name]

    def has_step(self, value):
        """Tell whether any value is a mixed step."""
        if not isinstance(value, tuple) or len(value) != 2:
            return False
        name, step = value
        return is_letter(name) and name in self._kinds and fits_step(self._kinds[name], step)

    def pairs(self):
        """Return the tuple of the pairs (name, kind), in order."""
        return tuple(self._kinds.items())

    def __eq__(self, other):
        # Dicts would be equal in another order, too.
        return isinstance(other, Boxes) and self.pairs() == other.pairs()


def is_box(value):
    """Tell whether any value is a pair of a name and a kind."""
    return isinstance(value, tuple) and len(value) == 2 and is_letter(value[0]) and is_kind(value[1])


def kinds_of(boxes):
    """Return the list of the kinds of the boxes, in order; raise NoBoxes for no boxes."""
    if not isinstance(boxes, Boxes):
        raise NoBoxes(boxes)
    return [kind for _, kind in boxes.pairs()]


def need_mixed_row(boxes, row):
    """Raise NoBoxes for no boxes, then NoRow for no mixed row of them."""
    kinds_of(boxes)
    if not fits_mixed_row(boxes, row):
        raise NoRow(row)


def fits_mixed_row(boxes, value):
    """Tell whether any value is a mixed row of the boxes."""
    if not isinstance(value, tuple) or len(value) > MOST_STEPS:
        return False
    return all([boxes.has_step(step) for step in value])


def need_all_contents(boxes, contents):
    """Raise NoBoxes for no boxes, then NoContents for no contents of all of them."""
    kinds_of(boxes)
    if not fits_all_contents(boxes, contents):
        raise NoContents(contents)


def fits_all_contents(boxes, value):
    """Tell whether any value is all contents of the boxes."""
    kinds = kinds_of(boxes)
    if not isinstance(value, tuple) or len(value) != len(kinds):
        return False
    return all([is_contents(kind, part) for kind, part in zip(kinds, value)])


def places_of(row, name):
    """Return the list of the indexes of a box's steps."""
    return [index for index, step in enumerate(row) if step[0] == name]


def own_steps(row, name):
    """Return the own row of a box that is known to be one."""
    return tuple([row[index][1] for index in places_of(row, name)])


def own_row(boxes, row, name):
    """Return the own row of the box of this name."""
    need_mixed_row(boxes, row)
    boxes.kind_of(name)
    return own_steps(row, name)


def own_rows(boxes, row):
    """Return the list of the own rows of all boxes, in order."""
    return [own_steps(row, name) for name in boxes.names()]


def all_left(boxes, row, contents):
    """Return what the row leaves of all contents, None if a step fails."""
    need_mixed_row(boxes, row)
    need_all_contents(boxes, contents)
    kinds = kinds_of(boxes)
    left = []
    for kind, own, part in zip(kinds, own_rows(boxes, row), contents):
        course = run_row(kind, own, part)
        if len(course) <= len(own):
            return None
        left.append(course[-1])
    for kind, part in zip(kinds, left):
        need_size(measured(kind, part))
    return tuple(left)


def failing_of(boxes, row, contents):
    """Return the dict from the names to the index of the first step of this box that fails, or None."""
    need_mixed_row(boxes, row)
    need_all_contents(boxes, contents)
    failing = {}
    for (name, kind), part in zip(boxes.pairs(), contents):
        places = places_of(row, name)
        done = len(run_row(kind, own_steps(row, name), part)) - 1
        failing[name] = places[done] if done < len(places) else None
    return failing


def first_failing(boxes, row, contents):
    """Return the index of the first step that fails, None if the row works."""
    failing = failing_of(boxes, row, contents)
    return min([index for index in failing.values() if index is not None], default=None)


def mixed_form(boxes, row):
    """Return the tuple of the forms of the own rows, None if the row is nowhere."""
    need_mixed_row(boxes, row)
    return told_mixed([form_of(kind, own) for kind, own in zip(kinds_of(boxes), own_rows(boxes, row))])


def told_mixed(forms):
    """Return the mixed form of the boxes' forms: None if that of one is."""
    return None if any([form is None for form in forms]) else tuple(forms)


def is_mixed_form(boxes, value):
    """Tell whether any value is a mixed form."""
    kinds = kinds_of(boxes)
    if value is None:
        return any([is_form(kind, None) for kind in kinds])
    if not isinstance(value, tuple) or len(value) != len(kinds):
        return False
    return all([form is not None and is_form(kind, form) for kind, form in zip(kinds, value)])


def need_mixed_form(boxes, form):
    """Raise NoBoxes for no boxes, then NoForm for no mixed form of them."""
    if not is_mixed_form(boxes, form):
        raise NoForm(form)


def joined_mixed(boxes, one, other):
    """Return the mixed form that one form and then another one make."""
    need_mixed_form(boxes, one)
    need_mixed_form(boxes, other)
    return both_mixed(kinds_of(boxes), one, other)


def both_mixed(kinds, one, other):
    """Return the same of what are known to be forms of boxes of these kinds."""
    if one is None or other is None:
        return None
    made = []
    too_long = False
    for kind, first, second in zip(kinds, one, other):
        # One box that is nowhere makes all of it None, also where another one's form is too long.
        try:
            # Most steps do nothing to most boxes, and with long forms it takes long to find this out.
            made.append(first if second == empty_form(kind) else both_forms(kind, first, second))
        except TooMany:
            too_long = True
    if too_long and told_mixed(made) is not None:
        raise TooMany(MOST_SIZE)
    return told_mixed(made)


def mixed_works(boxes, form, contents):
    """Tell whether the form works on all contents."""
    need_mixed_form(boxes, form)
    need_all_contents(boxes, contents)
    if form is None:
        return False
    return all([works_on(kind, part, own) for kind, part, own in zip(kinds_of(boxes), form, contents)])


def mixed_left(boxes, form, contents):
    """Return what the form leaves of all contents, None where it does not work."""
    if not mixed_works(boxes, form, contents):
        return None
    return tuple([left_by(kind, part, own) for kind, part, own in zip(kinds_of(boxes), form, contents)])


def mixed_alike(boxes, one, other):
    """Tell whether two mixed rows have one effect."""
    return parting_box(boxes, one, other) is None


def parting_box(boxes, one, other):
    """Return the name of the first box whose own rows are not alike, None if the rows are alike."""
    need_mixed_row(boxes, one)
    need_mixed_row(boxes, other)
    if mixed_form(boxes, one) is None and mixed_form(boxes, other) is None:
        return None
    for name, kind in boxes.pairs():
        if form_of(kind, own_steps(one, name)) != form_of(kind, own_steps(other, name)):
            return name
    return None


def same_but_order(boxes, one, other):
    """Tell whether exchanges lead the one row to the other one."""
    need_mixed_row(boxes, one)
    need_mixed_row(boxes, other)
    return own_rows(boxes, one) == own_rows(boxes, other)


def least_exchanges(boxes, one, other):
    """Return the least number of exchanges that lead the one row to the other one, None if none do."""
    if not same_but_order(boxes, one, other):
        return None
    goals = [None] * len(one)
    for name in boxes.names():
        for index, goal in zip(places_of(one, name), places_of(other, name)):
            goals[index] = goal
    return sum([1 for late in range(len(one)) for early in range(late) if goals[early] > goals[late]])


def told_exchanges(boxes, one, other):
    """Return the told exchanges that lead the one row to the other one, None if none do."""
    if not same_but_order(boxes, one, other):
        return None
    present = list(one)
    exchanges = []
    for place, step in enumerate(other):
        index = places_of(present[place:], step[0])[0] + place
        exchanges.extend(list(range(index - 1, place - 1, -1)))
        present.insert(place, present.pop(index))
    return exchanges


def leads_by(boxes, one, other, value):
    """Tell whether any value is exchanges that lead the one row to the other one."""
    need_mixed_row(boxes, one)
    need_mixed_row(boxes, other)
    if not isinstance(value, (list, tuple)) or len(value) > MOST_SIZE:
        return False
    present = list(one)
    for index in value:
        if not is_between(index, 0, len(present) - 2) or present[index][0] == present[index + 1][0]:
            return False
        present[index], present[index + 1] = present[index + 1], present[index]
    return tuple(present) == other


def orderly_row(boxes, row):
    """Return the row that has all steps of the first box, then those of the second one, and so on."""
    need_mixed_row(boxes, row)
    return tuple([row[index] for name in boxes.names() for index in places_of(row, name)])


def how_many_orders(boxes, row):
    """Return how many rows are the same but for order."""
    need_mixed_row(boxes, row)
    orders = 1
    done = 0
    for own in own_rows(boxes, row):
        for many in range(1, len(own) + 1):
            done += 1
            # So many of the steps done so far are this box's: each time a whole number of choices.
            orders = orders * done // many
    return orders
