"""Meeting: two loads that a moved row leads to one, of one class in which something is lost, or of two classes."""

from boxeffects.classes import signs_in_form, told_letters
from boxeffects.lettering import NewLetters, letters_for, letters_of_moved, load_with
from boxeffects.signs import signs_in_class
from boxeffects.sites import parts_lost, sites_behind
from boxeffects.ties import Ties, is_sign


def marked(number, term):
    """Return a term of the first class (0) or of the second one (1): their signs stand for unlike letters."""
    return (number, term) if is_sign(term) else term


def ties_of_meeting(desk, row, classes, forms):
    """Return the ties, over marked signs, of two loads that are led to one, None if there are none."""
    one, other = [sites_behind(desk, row, cls, form) for cls, form in zip(classes, forms)]
    if list(one) != list(other):
        return None
    ties = Ties()
    for number, form in enumerate(forms):
        for signs, letter in form[0]:
            ties.tie_part([marked(number, sign) for sign in signs], letter)
    for site in list(one):
        ties.tie(marked(0, one[site]), marked(1, other[site]))
    return ties if ties.are_kept() else None


def two_meeting(desk, row, classes, forms):
    """Return two loads, of two classes that meet, which the row leads to one."""
    ties = ties_of_meeting(desk, row, classes, forms)
    new = NewLetters(letters_of_moved(row))
    signs = [(number, sign) for number, cls in enumerate(classes) for sign in signs_in_class(desk, row, cls)]
    letters = letters_for(signs, ties, new)
    rests = {name: new.next_one() for name, kind in desk[0] if kind == ("tape",)}
    loads = []
    for number, cls in enumerate(classes):
        own = {sign[1]: letters[sign] for sign in signs if sign[0] == number}
        loads.append(load_with(desk, cls, own, {}, rests))
    return tuple(loads)


def two_lost(desk, row, cls, form):
    """Return the told load of a class in which something is lost, and this load with another letter for it."""
    standing = signs_in_form(desk, cls, form)
    letters, rests, new = told_letters(desk, cls, form, standing)
    for sign in signs_in_class(desk, row, cls):
        if sign not in letters:
            letters[sign] = new.next_one()
    lost = parts_lost(desk, row, cls, form)[0]
    letter = new.next_one()
    other = {sign: letter if sign in lost else letters[sign] for sign in letters}
    return load_with(desk, cls, letters, {}, rests), load_with(desk, cls, other, {}, rests)
