"""Reading: what the words of single lines tell; None where they do not fit, as where there are no words at all.

Bounds and orders are not asked here, only which words there are.
"""

from boxeffects.kinds import STEP_PARTS, is_kind, is_letter
from boxeffects.registers import GIVING
from boxeffects.wording import FAILS, NONE, NOTHING

DIGITS = "0123456789"
# What stands in each line of a form of a kind with so many lines; a star stands for as many such groups as there are.
FORM_PARTS = {
    "stack": (("*", "letter"), ("*", "letter")),
    "queue": (("*", "letter"), ("*", "letter"), ("number",)),
    "tape": (("number",), ("*", "number", "letter"), ("*", "number", "letter")),
    "gauge": (("number", "number", "number"),),
    "table": (("*", "name", "what"), ("*", "name", "what")),
}
FIRST_CORNER = ("none", "number", "number")
CORNER = ("number", "number", "number")


def is_number_word(word):
    """Tell whether a word is a number: no 0 ahead, a - if it is below 0."""
    digits = word[1:] if word[:1] == "-" else word
    if not digits or not all([sign in DIGITS for sign in digits]):
        return False
    return digits[0] != "0" or word == "0"


def fits_role(role, word):
    """Tell whether a word can stand for a part of this role."""
    if role in ("number", "amount"):
        return is_number_word(word)
    if role in ("none", "what") and word == NONE:
        return True
    return role != "none" and is_letter(word)


def value_of(role, word):
    """Return what a word that can stand for a part of this role tells."""
    if role in ("number", "amount"):
        return int(word)
    return None if word == NONE else word


def read_parts(words, roles):
    """Return the tuple of what the words of a line tell, one for each role."""
    if len(words) != len(roles):
        return None
    if not all([fits_role(role, word) for role, word in zip(roles, words)]):
        return None
    return tuple([value_of(role, word) for role, word in zip(roles, words)])


def read_groups(words, roles):
    """Return the tuple of what one group of words after the other tells, each with these roles."""
    many = len(roles)
    groups = [read_parts(words[at:at + many], roles) for at in range(0, len(words), many)]
    return None if None in groups else tuple(groups)


def read_some(words, roles):
    """Return the same of all words of a line, which has a sign for nothing if there is no group."""
    if not words:
        return None
    groups = () if words == [NOTHING] else read_groups(words, roles)
    if groups is None or len(roles) > 1:
        return groups
    # What stands alone is no tuple of one.
    return tuple([part for group in groups for part in group])


def read_kind(words):
    """Return the kind that words tell."""
    parts = tuple([int(word) if is_number_word(word) else word for word in words])
    return parts if is_kind(parts) else None


def read_step(kind, words):
    """Return the step of the kind that words tell."""
    parts = STEP_PARTS.get((kind[0], words[0])) if words else None
    if parts is None:
        return None
    if not parts:
        return tuple(words) if len(words) == 1 else None
    told = read_parts(words[1:], parts)
    return None if told is None else (words[0],) + told


def read_contents(kind, words):
    """Return the contents of the kind that words tell."""
    name = kind[0]
    if name == "gauge":
        told = read_parts(words, ("number",))
        return None if told is None else told[0]
    if name == "tape":
        pairs = read_groups(words[1:], ("number", "letter"))
        return None if pairs is None or not words or not is_letter(words[0]) else (pairs, words[0])
    if name == "heap":
        return read_some(words, ("number",))
    return read_some(words, ("name", "letter")) if name == "table" else read_some(words, ("letter",))


def read_ring_item(words):
    """Return in a tuple what a line tells of one length in a form of a ring."""
    if words == [FAILS]:
        return (None,)
    if not words or not is_number_word(words[0]):
        return None
    word = read_groups(words[1:], ("letter",))
    return None if word is None else ((int(words[0]), tuple([letter for group in word for letter in group])),)


def read_form_part(roles, words):
    """Return in a tuple what a line of a form with these roles tells."""
    if roles[0] == "*":
        told = read_some(words, roles[1:])
        return None if told is None else (told,)
    return read_parts(words, roles)


def read_box(words):
    """Return the pair of a name and a kind that a line of a box tells."""
    if len(words) < 3 or words[0] != "box" or not is_letter(words[1]):
        return None
    kind = read_kind(words[2:])
    return None if kind is None else (words[1], kind)


def read_named(first, words):
    """Return the name that a line of this first word and a name tells."""
    return words[1] if len(words) == 2 and words[0] == first and is_letter(words[1]) else None


def read_mixed_step(kinds, words):
    """Return the mixed step that a line tells, of boxes with these kinds."""
    if not words or words[0] not in kinds:
        return None
    step = read_step(kinds[words[0]], words[1:])
    return None if step is None else (words[0], step)


def read_register_step(names, words):
    """Return the step of these registers alone that words tell."""
    if len(words) != 3 or words[1] not in names:
        return None
    if words[0] == "is":
        return tuple(words) if is_letter(words[2]) else None
    return tuple(words) if words[0] in ("copy", "same") and words[2] in names else None


def read_moved_step(kinds, names, words):
    """Return the moved step that a line tells, of boxes with these kinds and registers with these names."""
    if words[:1] == [NOTHING]:
        return read_register_step(names, words[1:])
    if len(words) == 3 and words[0] in kinds and words[2] in names:
        giving = GIVING.get(kinds[words[0]][0])
        if giving is not None and words[1] in ("lay", giving):
            return words[0], (words[1], words[2])
    return read_mixed_step(kinds, words)


def read_act(kinds, words):
    """Return the act that a line tells, of boxes with these kinds."""
    if words[:1] == ["do"]:
        step = read_mixed_step(kinds, words[1:])
        return None if step is None else ("do",) + step
    if words[:1] == ["call"]:
        name = read_named("call", words)
        return None if name is None else ("call", name)
    if words[:1] != ["repeat"]:
        return None
    told = read_parts(words[1:], ("number", "name"))
    return None if told is None else ("repeat",) + told
