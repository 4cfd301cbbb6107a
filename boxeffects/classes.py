"""Forms of moved rows in a class: what a row ties and leaves there, what such a form does to a load."""

from boxeffects.boxes import told_tape
from boxeffects.errors import NoForm
from boxeffects.kinds import MOST_SIZE, is_ascending, is_letter, is_number
from boxeffects.lettering import Lying, NewLetters, letters_for, load_with, places_in
from boxeffects.registers import need_desk, need_load, need_load_size, need_moved_row
from boxeffects.signed import made_form, open_boxes
from boxeffects.signs import class_in, need_class, need_depths, need_enough
from boxeffects.ties import is_sign, ties_of


def form_in(desk, row, depths, cls):
    """Return the form of the row in a class, None if it works on no load of it."""
    need_moved_row(desk, row)
    need_enough(desk, row, depths)
    need_class(desk, depths, cls)
    return made_form(desk, row, depths, cls)


def is_class_sign(desk, cls, value):
    """Tell whether any value is a sign of the class, of tapes at any place."""
    if not isinstance(value, tuple) or len(value) not in (1, 2) or not is_letter(value[0]):
        return False
    if len(value) == 1:
        return value[0] in desk[1]
    if not is_number(value[1]):
        return False
    for (name, kind), number in zip(desk[0], cls):
        if name == value[0]:
            return kind == ("tape",) or 1 <= value[1] <= number
    return False


def is_part(desk, cls, value):
    """Tell whether any value is a pair of ascending signs and a letter, or None where there are several signs."""
    if not isinstance(value, tuple) or len(value) != 2:
        return False
    signs, letter = value
    if not isinstance(signs, tuple) or not all([is_class_sign(desk, cls, sign) for sign in signs]):
        return False
    if letter is None:
        return len(signs) > 1 and is_ascending(signs)
    return is_letter(letter) and len(signs) > 0 and is_ascending(signs)


def are_all_unlike(items):
    """Tell whether nothing stands twice in a list."""
    return len(set(items)) == len(items)


def are_parts(desk, cls, value):
    """Tell whether any value is parts of the class, ascending, none of them to be held together with another one."""
    if not isinstance(value, tuple) or not all([is_part(desk, cls, part) for part in value]):
        return False
    if not is_ascending([signs for signs, _ in value]):
        return False
    letters = [letter for _, letter in value if letter is not None]
    return are_all_unlike([sign for signs, _ in value for sign in signs]) and are_all_unlike(letters)


def are_told(desk, cls, ties, value, most):
    """Tell whether any value is a tuple of at most so many terms of the class, as the ties tell them."""
    if not isinstance(value, tuple) or len(value) > most:
        return False
    if not all([is_letter(term) or is_class_sign(desk, cls, term) for term in value]):
        return False
    return ties.tell_all(value) == value


def is_tape_left(desk, cls, ties, name, value):
    """Tell whether any value is what a form leaves of a tape: a pair of a place and what is written."""
    if not isinstance(value, tuple) or len(value) != 2 or not is_number(value[0]):
        return False
    written = value[1]
    if not isinstance(written, tuple):
        return False
    if not all([isinstance(pair, tuple) and len(pair) == 2 and is_number(pair[0]) for pair in written]):
        return False
    if not is_ascending([place for place, _ in written]):
        return False
    terms = tuple([term for _, term in written])
    if not are_told(desk, cls, ties, terms, len(terms)):
        return False
    return all([term != ties.tell((name, place)) for place, term in written])


def is_box_left(desk, cls, ties, box, is_open, value):
    """Tell whether any value is what a form leaves of a box."""
    name, kind = box
    if kind == ("tape",):
        return is_tape_left(desk, cls, ties, name, value)
    if not isinstance(value, tuple) or len(value) != 2:
        return False
    most = kind[1] if kind[0] == "ring" else MOST_SIZE
    most_behind = MOST_SIZE if kind == ("queue",) and is_open else 0
    return are_told(desk, cls, ties, value[0], most) and are_told(desk, cls, ties, value[1], most_behind)


def is_left(desk, depths, cls, ties, value):
    """Tell whether any value is what a form of the class leaves, if its parts are those of the ties."""
    if not isinstance(value, tuple) or len(value) != 2:
        return False
    boxes, letters = value
    if not isinstance(boxes, tuple) or len(boxes) != len(desk[0]):
        return False
    opens = open_boxes(desk, depths, cls)
    for box, part in zip(desk[0], boxes):
        if not is_box_left(desk, cls, ties, box, opens.get(box[0], False), part):
            return False
    return are_told(desk, cls, ties, letters, len(desk[1])) and len(letters) == len(desk[1])


def fits_form(desk, depths, cls, value):
    """Tell whether any value is a form of what is known to be a class, not None."""
    if not isinstance(value, tuple) or len(value) != 2 or not are_parts(desk, cls, value[0]):
        return False
    return is_left(desk, depths, cls, ties_of(value[0]), value[1])


def need_all_of_class(desk, depths, cls):
    """Raise NoBoxes, NoCount and NoClass unless they are a desk, depths of it and a class there."""
    need_desk(desk)
    need_depths(desk, depths)
    need_class(desk, depths, cls)


def is_moved_form(desk, depths, cls, value):
    """Tell whether any value is a form of the class, not None."""
    need_all_of_class(desk, depths, cls)
    return fits_form(desk, depths, cls, value)


def keeps_parts(lying, parts):
    """Tell whether the letters that lie in a load of the class keep the ties of all parts."""
    for signs, letter in parts:
        told = lying.under(signs[0]) if letter is None else letter
        if not all([lying.under(sign) == told for sign in signs]):
            return False
    return True


def moved_works(desk, depths, cls, form, load):
    """Tell whether the load is of the class and keeps the ties of the form."""
    need_all_of_class(desk, depths, cls)
    if form is not None and not fits_form(desk, depths, cls, form):
        raise NoForm(form)
    need_load(desk, load)
    if form is None or class_in(desk, depths, load) != cls:
        return False
    return keeps_parts(Lying(desk, load), form[0])


def letters_of_terms(lying, terms):
    """Return the tuple of the letters that stand for terms in a load."""
    return tuple([lying.under(term) if is_sign(term) else term for term in terms])


def tape_left_of(lying, contents, part):
    """Return what a form leaves of a tape of a load."""
    place, written = part
    pairs, rest = contents
    letters = dict(pairs)
    letters.update({at: lying.under(term) if is_sign(term) else term for at, term in written})
    return told_tape({at - place: letters[at] for at in letters}, rest)


def load_left_of(desk, depths, cls, form, load):
    """Return what a form leaves of a load on which it works, of whatever size."""
    opens = open_boxes(desk, depths, cls)
    lying = Lying(desk, load)
    left = []
    for (name, kind), number, contents, part in zip(desk[0], cls, load[0], form[1][0]):
        if kind == ("tape",):
            left.append(tape_left_of(lying, contents, part))
        else:
            rest = contents[number:] if opens.get(name, False) else ()
            left.append(letters_of_terms(lying, part[0]) + rest + letters_of_terms(lying, part[1]))
    return tuple(left), letters_of_terms(lying, form[1][1])


def moved_left(desk, depths, cls, form, load):
    """Return what the form leaves of the load, None where it does not work."""
    if not moved_works(desk, depths, cls, form, load):
        return None
    left = load_left_of(desk, depths, cls, form, load)
    need_load_size(desk, left)
    return left


def terms_of(desk, form):
    """Return the list of all terms that stand in a form."""
    parts, (boxes, letters) = form
    terms = [sign for signs, _ in parts for sign in signs] + [letter for _, letter in parts if letter is not None]
    for (_, kind), part in zip(desk[0], boxes):
        terms.extend([term for _, term in part[1]] if kind == ("tape",) else part[0] + part[1])
    return terms + list(letters)


def signs_in_form(desk, cls, form):
    """Return the list of the signs of the class, of tapes those that stand in the form, ascending."""
    signs = [(name,) for name in desk[1]]
    standing = [term for term in terms_of(desk, form) if is_sign(term)]
    for (name, kind), number in zip(desk[0], cls):
        places = places_in(standing, name) if kind == ("tape",) else list(range(1, number + 1))
        signs.extend([(name, place) for place in places])
    return sorted(set(signs))


def told_letters(desk, cls, form, signs):
    """Return the triple of the letters of the told load: for these signs, for rests, and the new ones behind."""
    new = NewLetters([term for term in terms_of(desk, form) if not is_sign(term)])
    letters = letters_for(signs, ties_of(form[0]), new)
    rests = {name: new.next_one() for name, kind in desk[0] if kind == ("tape",)}
    return letters, rests, new


def told_load(desk, depths, cls, form):
    """Return the told load of a class and a form that is not None."""
    need_all_of_class(desk, depths, cls)
    if not fits_form(desk, depths, cls, form):
        raise NoForm(form)
    letters, rests, _ = told_letters(desk, cls, form, signs_in_form(desk, cls, form))
    load = load_with(desk, cls, letters, {}, rests)
    need_load_size(desk, load)
    return load
