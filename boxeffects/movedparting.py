"""Parting of moved rows: loads of which one tells two rows of a desk apart, if any load does."""

from boxeffects.classes import terms_of
from boxeffects.lettering import NewLetters, letters_for, letters_of_moved, load_with, places_in
from boxeffects.movedforms import forms_beside, shared_depths
from boxeffects.registers import load_left, need_moved_row
from boxeffects.signed import open_boxes
from boxeffects.ties import is_sign, ties_of
from boxeffects.trials import each_once


def trial_places(desk, at, forms):
    """Return the places of the tape with this number in the desk that trials of the forms have signs for."""
    places = []
    for form in forms:
        signs = [term for term in terms_of(desk, form) if is_sign(term)]
        places.extend(places_in(signs, desk[0][at][0]))
        places.extend([place for place, _ in form[1][0][at][1]])
    return list(range(min(places), max(places) + 2)) if places else [0, 1]


def trial_signs(desk, cls, forms):
    """Return the list of the signs, ascending, for which trials of the forms have letters."""
    signs = [(name,) for name in desk[1]]
    for at, (name, kind) in enumerate(desk[0]):
        places = trial_places(desk, at, forms) if kind == ("tape",) else list(range(1, cls[at] + 1))
        signs.extend([(name, place) for place in places])
    return sorted(signs)


def trial_load(desk, depths, cls, form, signs, taken):
    """Return the trial of a form in a class, with letters for these signs, the new ones not among the taken ones."""
    new = NewLetters(taken)
    letters = letters_for(signs, ties_of(form[0]), new)
    opens = open_boxes(desk, depths, cls)
    behind = {name: (new.next_one(),) for name in opens if opens[name]}
    rests = {name: new.next_one() for name, kind in desk[0] if kind == ("tape",)}
    return load_with(desk, cls, letters, behind, rests)


def moved_trials(desk, one, other):
    """Return the list of the trials of both rows: if none of these parts them, none does."""
    depths = shared_depths(desk, one, other)
    taken = letters_of_moved(one) + letters_of_moved(other)
    trials = []
    for cls, first, second in forms_beside(desk, one, other):
        forms = [form for form in (first, second) if form is not None]
        for form in forms:
            trials.append(trial_load(desk, depths, cls, form, trial_signs(desk, cls, forms), taken))
    return each_once(trials)


def are_moved_parted(desk, one, other, load):
    """Tell whether just one of the rows works on the load, or both leave unlike things."""
    left = load_left(desk, one, load)
    return load_left(desk, other, load) != left


def moved_parting(desk, one, other):
    """Return the first trial that parts the rows, None if they are alike."""
    for trial in moved_trials(desk, one, other):
        if are_moved_parted(desk, one, other, trial):
            return trial
    return None


def moved_does_part(desk, one, other, load):
    """Tell whether the load parts the rows."""
    need_moved_row(desk, one)
    need_moved_row(desk, other)
    return are_moved_parted(desk, one, other, load)
