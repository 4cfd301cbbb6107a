"""Moved rows beside one another: tables of their forms, alike and less rows, tables put together."""

from boxeffects.classes import fits_form
from boxeffects.errors import NoForm
from boxeffects.registers import need_desk, need_moved_row
from boxeffects.signed import made_form, open_boxes
from boxeffects.signs import (
    all_classes,
    are_numbers_to,
    class_bounds,
    depths_by_boxes,
    how_many_classes,
    need_depths,
    need_enough,
    need_few_classes,
)
from boxeffects.ties import is_sign, ties_of, told_left


def table_of(desk, row, depths):
    """Return the dict from all classes at the depths, ascending, to the row's forms there."""
    need_moved_row(desk, row)
    need_enough(desk, row, depths)
    need_few_classes(desk, depths)
    return {cls: made_form(desk, row, depths, cls) for cls in all_classes(desk, depths)}


def shared_depths(desk, one, other):
    """Return the tuple of the greater depths of both rows."""
    need_moved_row(desk, one)
    need_moved_row(desk, other)
    first = depths_by_boxes(desk, one)
    second = depths_by_boxes(desk, other)
    return tuple([max(depth, deeper) for depth, deeper in zip(first, second)])


def forms_beside(desk, one, other):
    """Return the list of the triples (class, form, form) of both rows at their shared depths."""
    depths = shared_depths(desk, one, other)
    need_few_classes(desk, depths)
    classes = all_classes(desk, depths)
    return [(cls, made_form(desk, one, depths, cls), made_form(desk, other, depths, cls)) for cls in classes]


def first_parting_class(desk, one, other):
    """Return the first class in which the rows' forms are unlike, None if they are alike."""
    for cls, first, second in forms_beside(desk, one, other):
        if first != second:
            return cls
    return None


def moved_alike(desk, one, other):
    """Tell whether both rows work on the same loads and leave the same."""
    return first_parting_class(desk, one, other) is None


def is_moved_form_less(desk, one, other):
    """Tell whether in a class the other form works wherever the one does, and leaves the same there."""
    if one is None or other is None:
        return one is None
    ties = ties_of(one[0])
    for signs, letter in other[0]:
        told = ties.tell(signs[0]) if letter is None else letter
        if not all([ties.tell(sign) == told for sign in signs]):
            return False
    return told_left(desk, ties, other[1]) == one[1]


def moved_less(desk, one, other):
    """Tell whether the other row works wherever the one does, and leaves the same there."""
    beside = forms_beside(desk, one, other)
    return all([is_moved_form_less(desk, first, second) for _, first, second in beside])


def fits_table(desk, depths, value):
    """Tell whether any value is a table at what are known to be depths."""
    if not isinstance(value, dict) or len(value) != how_many_classes(desk, depths):
        return False
    bounds = class_bounds(desk, depths)
    # So many unlike classes are all of them.
    if not all([are_numbers_to(cls, bounds) for cls in value]):
        return False
    return all([form is None or fits_form(desk, depths, cls, form) for cls, form in value.items()])


def is_table(desk, depths, value):
    """Tell whether any value is a dict from just the classes to forms there, or None."""
    need_desk(desk)
    need_depths(desk, depths)
    return fits_table(desk, depths, value)


def is_deep_enough(desk, depths, table, other_depths):
    """Tell whether what the first table leaves in open boxes has all the signs of the second one's depths."""
    for cls, form in table.items():
        if form is None:
            continue
        opens = open_boxes(desk, depths, cls)
        for (name, _), part, asked in zip(desk[0], form[1][0], other_depths):
            if opens.get(name, False) and len(part[0]) < asked:
                return False
    return True


class Standing:
    """The terms that stand behind a form, as the signs of what is done next."""

    def __init__(self, desk, left):
        self._terms = {(name,): term for name, term in zip(desk[1], left[1])}
        self._shifts = {}
        for (name, kind), part in zip(desk[0], left[0]):
            if kind == ("tape",):
                self._shifts[name] = part[0]
                self._terms.update({(name, place - part[0]): term for place, term in part[1]})
            else:
                self._terms.update({(name, at): term for at, term in enumerate(part[0], start=1)})

    def at(self, term):
        """Return the term that stands for a term of what is done next."""
        if not is_sign(term):
            return term
        if term in self._terms:
            return self._terms[term]
        # At a place of a tape at which nothing is written its own sign stands.
        return term[0], term[1] + self._shifts[term[0]]

    def at_all(self, terms):
        """Return the list of what stands for the terms."""
        return [self.at(term) for term in terms]


def class_behind(desk, left, other_depths):
    """Return the class of the second table in which what is left stands."""
    cls = []
    for (_, kind), part, depth in zip(desk[0], left[0], other_depths):
        if kind == ("tape",):
            cls.append(0)
        else:
            cls.append(len(part[0]) if kind[0] == "ring" else min(len(part[0]), depth))
    return tuple(cls)


def tape_put(standing, first, second):
    """Return the pair of a tape, its places in any order: what the second form leaves, put for the first one's."""
    shift, written = first
    terms = dict(written)
    for place, term in second[1]:
        terms[place + shift] = standing.at(term)
    return shift + second[0], list(terms.items())


def word_put(standing, first, second, depth, is_open, goes_on):
    """Return the pair (front, back) of what the second form leaves of a box, put for the first one's.

    The box is_open in the first one's class; it goes on behind the second one's signs if it is open in its class.
    """
    front = standing.at_all(second[0])
    back = standing.at_all(second[1])
    if goes_on:
        front = front + list(first[0][depth:])
    if is_open:
        return front, list(first[1]) + back
    return front + back, []


def forms_together(desk, classes, depths, one, other):
    """Return the form of what one form and, in the second class, another one do; None if it is nowhere.

    The classes, and the depths, are pairs of those of the first and of the second form.
    """
    standing = Standing(desk, one[1])
    ties = ties_of(one[0])
    for signs, letter in other[0]:
        ties.tie_part(standing.at_all(signs), letter)
    if not ties.are_kept():
        return None
    opens = open_boxes(desk, depths[0], classes[0])
    further = open_boxes(desk, depths[1], classes[1])
    boxes = []
    for (name, kind), depth, first, second in zip(desk[0], depths[1], one[1][0], other[1][0]):
        if kind == ("tape",):
            boxes.append(tape_put(standing, first, second))
        else:
            is_open = opens.get(name, False)
            boxes.append(word_put(standing, first, second, depth, is_open, further.get(name, False)))
    return ties.parts(), told_left(desk, ties, (boxes, standing.at_all(other[1][1])))


def put_together(desk, depths, table, other_depths, other):
    """Return the table at the first depths of both rows, one behind the other, told of their tables alone."""
    need_desk(desk)
    need_depths(desk, depths)
    if not fits_table(desk, depths, table):
        raise NoForm(table)
    need_depths(desk, other_depths)
    if not fits_table(desk, other_depths, other) or not is_deep_enough(desk, depths, table, other_depths):
        raise NoForm(other)
    made = {}
    for cls in all_classes(desk, depths):
        made[cls] = None
        if table[cls] is not None:
            behind = class_behind(desk, table[cls][1], other_depths)
            if other[behind] is not None:
                made[cls] = forms_together(desk, (cls, behind), (depths, other_depths), table[cls], other[behind])
    return made
