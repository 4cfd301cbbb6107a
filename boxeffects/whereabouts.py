"""Whereabouts: where letters go, which are lost, what can be left, and whether two loads are led to one."""

from boxeffects.boxes import told_tape
from boxeffects.errors import NoClass
from boxeffects.lettering import Lying, NewLetters, letters_for, letters_of_moved, places_in
from boxeffects.meeting import ties_of_meeting, two_lost, two_meeting
from boxeffects.registers import checked_loads, is_load, need_load, need_load_size, need_moved_row
from boxeffects.signed import made_form, open_boxes
from boxeffects.signs import (
    all_classes,
    are_numbers_to,
    class_bounds,
    depths_by_boxes,
    need_enough,
    need_few_classes,
    signs_in_class,
)
from boxeffects.sites import found_signs, parts_lost, sites_behind
from boxeffects.ties import is_sign, ties_of


def form_of_class(desk, row, depths, cls):
    """Return the form of the row in any value, None if it is no class or one without a form."""
    if not are_numbers_to(cls, class_bounds(desk, depths)):
        return None
    return made_form(desk, row, depths, cls)


def checked_form(desk, row, depths, cls):
    """Return the form of what are found to be a desk, a row, depths and a class in which it has one."""
    need_moved_row(desk, row)
    need_enough(desk, row, depths)
    form = form_of_class(desk, row, depths, cls)
    if form is None:
        raise NoClass(cls)
    return form


def terms_behind(desk, row, depths, cls):
    """Return the dict from the sites, ascending, to the terms that stand there."""
    form = checked_form(desk, row, depths, cls)
    return sites_behind(desk, row, cls, form)


def whereabouts(desk, row, depths, cls):
    """Return the dict from the signs of the class, ascending, to where they are: known, standing or lost."""
    form = checked_form(desk, row, depths, cls)
    return found_signs(desk, row, cls, form)


def lost_parts(desk, row, depths, cls):
    """Return the tuple of the parts, tuples of signs, that are lost, ascending."""
    form = checked_form(desk, row, depths, cls)
    return parts_lost(desk, row, cls, form)


def loses_nothing(desk, row, depths, cls):
    """Tell whether no sign of the class is lost."""
    return not lost_parts(desk, row, depths, cls)


def are_lengths_left(desk, form, opens, load):
    """Tell whether the boxes of a load are as long as the form leaves them."""
    for (name, kind), contents, part in zip(desk[0], load[0], form[1][0]):
        if kind == ("tape",):
            continue
        told = len(part[0]) + len(part[1])
        if len(contents) < told or (len(contents) > told and not opens.get(name, False)):
            return False
    return True


def letters_ahead(desk, row, cls, form, load):
    """Return the dict from terms to the letters of a load that stand at their sites, None if unlike ones do."""
    lying = Lying(desk, load)
    letters = {}
    for site, term in sites_behind(desk, row, cls, form).items():
        told = letters.setdefault(term, lying.under(site)) if is_sign(term) else term
        if told != lying.under(site):
            return None
    return letters


def found_ahead(desk, row, depths, cls, load):
    """Return the pair of the form and the letters of terms, None for these if no load is led to this one."""
    form = checked_form(desk, row, depths, cls)
    need_load(desk, load)
    if not are_lengths_left(desk, form, open_boxes(desk, depths, cls), load):
        return form, None
    return form, letters_ahead(desk, row, cls, form, load)


def can_be_left(desk, row, depths, cls, load):
    """Tell whether the row leads some load of the class, of any size, to this one."""
    return found_ahead(desk, row, depths, cls, load)[1] is not None


def letters_in_load(desk, load):
    """Return the list of all letters that stand in a load."""
    letters = list(load[1])
    for (_, kind), contents in zip(desk[0], load[0]):
        letters.extend([letter for _, letter in contents[0]] + [contents[1]] if kind == ("tape",) else contents)
    return letters


def part_ahead(kind, part, contents, begin, lying):
    """Return the contents of a box ahead of the row.

    They begin with the letters begin; of a tape lying leads from the places of the row's signs to their letters.
    """
    if kind == ("tape",):
        letters = {place + part[0]: letter for place, letter in contents[0]}
        letters.update(lying)
        return told_tape(letters, contents[1])
    return begin + contents[len(part[0]):len(contents) - len(part[1])]


def load_of_signs(desk, cls, form, load, letters):
    """Return the load that is led to the given one, with these letters for the signs of the class."""
    contents = []
    for (name, kind), number, part, left in zip(desk[0], cls, form[1][0], load[0]):
        begin = tuple([letters[(name, at)] for at in range(1, number + 1)])
        lying = {place: letters[(name, place)] for place in places_in(list(letters), name)}
        contents.append(part_ahead(kind, part, left, begin, lying))
    return tuple(contents), tuple([letters[(name,)] for name in desk[1]])


def load_ahead(desk, row, depths, cls, load):
    """Return the load ahead of what the row leaves, None if it leads no load of the class to it."""
    form, standing = found_ahead(desk, row, depths, cls, load)
    if standing is None:
        return None
    new = NewLetters(letters_of_moved(row) + letters_in_load(desk, load))
    ties = ties_of(form[0])
    for term in list(standing):
        ties.tie(term, standing[term])
    ahead = load_of_signs(desk, cls, form, load, letters_for(signs_in_class(desk, row, cls), ties, new))
    need_load_size(desk, ahead)
    return ahead


def do_meet(desk, row, depths, one, other):
    """Tell whether a load of the one class and a load of the other one are led to one load."""
    first = checked_form(desk, row, depths, one)
    second = form_of_class(desk, row, depths, other)
    if second is None or one == other:
        raise NoClass(other)
    return ties_of_meeting(desk, row, (one, other), (first, second)) is not None


def forms_of_row(desk, row):
    """Return the dict from the classes, ascending, at the row's own depths to its forms, where it has one."""
    need_moved_row(desk, row)
    depths = depths_by_boxes(desk, row)
    need_few_classes(desk, depths)
    forms = {cls: made_form(desk, row, depths, cls) for cls in all_classes(desk, depths)}
    return {cls: forms[cls] for cls in forms if forms[cls] is not None}


def classes_by_sites(desk, row, forms):
    """Return the list of the lists of classes that leave the same sites: only these can meet."""
    groups = {}
    for cls, form in forms.items():
        groups.setdefault(tuple(sites_behind(desk, row, cls, form)), []).append(cls)
    return list(groups.values())


def first_meeting(desk, row, forms):
    """Return a pair of classes that meet, None if none do."""
    for classes in classes_by_sites(desk, row, forms):
        for at, other in enumerate(classes):
            for one in classes[:at]:
                if ties_of_meeting(desk, row, (one, other), (forms[one], forms[other])) is not None:
                    return one, other
    return None


def first_losing(desk, row, forms):
    """Return the first class in which something is lost, None if there is none."""
    for cls, form in forms.items():
        if parts_lost(desk, row, cls, form):
            return cls
    return None


def is_one_to_one(desk, row):
    """Tell whether the row leads no two loads to one."""
    forms = forms_of_row(desk, row)
    return first_losing(desk, row, forms) is None and first_meeting(desk, row, forms) is None


def merged_paper(desk, row):
    """Return the told paper of two loads that the row leads to one, None if it is one to one."""
    forms = forms_of_row(desk, row)
    losing = first_losing(desk, row, forms)
    if losing is not None:
        return ("merged",) + two_lost(desk, row, losing, forms[losing])
    meeting = first_meeting(desk, row, forms)
    if meeting is None:
        return None
    return ("merged",) + two_meeting(desk, row, meeting, (forms[meeting[0]], forms[meeting[1]]))


def accepts_merged(desk, row, value):
    """Tell whether any value is a paper of two unlike loads that the row leads to one."""
    need_moved_row(desk, row)
    if not isinstance(value, tuple) or len(value) != 3 or not isinstance(value[0], str) or value[0] != "merged":
        return False
    if not is_load(desk, value[1]) or not is_load(desk, value[2]) or value[1] == value[2]:
        return False
    one = checked_loads(desk, row, value[1])
    other = checked_loads(desk, row, value[2])
    return len(one) == len(row) + 1 and len(other) == len(row) + 1 and one[-1] == other[-1]
