"""Texts: rows, contents, forms, loads and programs written as lines, and read from them."""

from boxeffects.errors import BadText, NoBoxes, NoProgram, NoThing
from boxeffects.forms import is_form
from boxeffects.kinds import is_contents, is_kind, is_row
from boxeffects.lines import BOX_WORDS, DESK_WORDS, KIND_WORDS, Lines, read_lines
from boxeffects.programs import Program
from boxeffects.registers import is_desk, is_load, is_moved_row
from boxeffects.several import Boxes, fits_all_contents, fits_mixed_row, is_mixed_form
from boxeffects.wording import (
    all_lines,
    contents_words,
    desk_lines,
    form_lines,
    forms_lines,
    kind_line,
    load_lines,
    mixed_lines,
    program_lines,
    row_lines,
)


def is_of_kind(word, kind, value):
    """Tell whether any values are a kind and what the word says of it."""
    if not is_kind(kind):
        return False
    if word == "row":
        return is_row(kind, value)
    return is_contents(kind, value) if word == "contents" else is_form(kind, value)


def are_parts_on(boxes, value):
    """Tell whether any value is a tuple of the parts of a program on the boxes."""
    if not isinstance(value, tuple):
        return False
    try:
        Program(boxes, value)
    except NoProgram:
        return False
    return True


def is_on_boxes(word, boxes, value):
    """Tell whether any value is what the word says, on the boxes."""
    if word == "program":
        return are_parts_on(boxes, value)
    if word == "mixed":
        return fits_mixed_row(boxes, value)
    return fits_all_contents(boxes, value) if word == "all" else is_mixed_form(boxes, value)


def is_of_boxes(word, pairs, value):
    """Tell whether any values are a tuple of pairs of boxes and what the word says of them."""
    if not isinstance(pairs, tuple):
        return False
    try:
        boxes = Boxes(pairs)
    except NoBoxes:
        return False
    return is_on_boxes(word, boxes, value)


def is_of_desk(word, desk, value):
    """Tell whether any values are a desk and what the word says of it."""
    if not is_desk(desk):
        return False
    return is_moved_row(desk, value) if word == "moved" else is_load(desk, value)


def is_thing(value):
    """Tell whether any value is a thing, which has a text."""
    if not isinstance(value, tuple) or len(value) != 3 or not isinstance(value[0], str):
        return False
    word, about, told = value
    if word in KIND_WORDS:
        return is_of_kind(word, about, told)
    if word in DESK_WORDS:
        return is_of_desk(word, about, told)
    return (word in BOX_WORDS or word == "program") and is_of_boxes(word, about, told)


def lines_of_kind(word, kind, told):
    """Return the list of the lines behind the first ones of a thing of a kind."""
    if word == "row":
        return row_lines(told)
    return [contents_words(kind, told)] if word == "contents" else form_lines(kind, told)


def lines_of_boxes(word, pairs, told):
    """Return the list of the lines behind the first ones of a thing of boxes."""
    if word == "mixed":
        return mixed_lines(told)
    return all_lines(pairs, told) if word == "all" else forms_lines(pairs, told)


def thing_lines(word, about, told):
    """Return the list of the lines of a thing."""
    if word in KIND_WORDS:
        return [kind_line(about), word] + lines_of_kind(word, about, told)
    if word in DESK_WORDS:
        return desk_lines(about) + [word] + (mixed_lines(told) if word == "moved" else load_lines(about, told))
    boxes = desk_lines((about, ()))
    return boxes + (program_lines(told) if word == "program" else [word] + lines_of_boxes(word, about, told))


def write_text(thing):
    """Return the text of a thing."""
    if not is_thing(thing):
        raise NoThing(thing)
    word, about, told = thing
    return "\n".join(thing_lines(word, about, told))


def lines_in(text):
    """Return the lines of what is found to be a text."""
    if not isinstance(text, str):
        raise BadText(None)
    return Lines(text)


def read_text(text):
    """Return the thing that a text tells."""
    thing = read_lines(lines_in(text))
    if not is_thing(thing):
        raise BadText(None)
    return thing


def lines_due(text):
    """Return how many lines of a text fit, from the first one on."""
    lines = lines_in(text)
    try:
        read_lines(lines)
    except BadText as bad:
        return bad.told
    return lines.end()
