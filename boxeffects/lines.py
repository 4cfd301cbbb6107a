"""Lines: a text read line by line, up to the first line that does not fit."""

from boxeffects.errors import BadText
from boxeffects.reading import (
    CORNER,
    FIRST_CORNER,
    FORM_PARTS,
    read_act,
    read_box,
    read_contents,
    read_form_part,
    read_kind,
    read_mixed_step,
    read_moved_step,
    read_named,
    read_parts,
    read_ring_item,
    read_step,
)
from boxeffects.wording import NOWHERE

KIND_WORDS = ("row", "contents", "form")
BOX_WORDS = ("mixed", "all", "forms")
DESK_WORDS = ("moved", "load")


class Lines:
    """The lines of a text, of which some have been taken."""

    def __init__(self, text):
        self._lines = [line.split(" ") for line in text.split("\n")]
        self._at = 0

    def ahead(self):
        """Return the list of the words of the next line, an empty one if there is none."""
        return self._lines[self._at] if self._at < len(self._lines) else []

    def are_more(self):
        """Tell whether there is a line that has not been taken."""
        return self._at < len(self._lines)

    def taken(self, told):
        """Take the next line, and return what it tells; raise BadText if this is None: then it does not fit."""
        if told is None:
            raise BadText(self._at)
        self._at += 1
        return told

    def taken_word(self, words):
        """Take a line of one of these words, and return it."""
        ahead = self.ahead()
        return self.taken(ahead[0] if len(ahead) == 1 and ahead[0] in words else None)

    def end(self):
        """Return how many lines there are; raise BadText if one has not been taken."""
        if self.are_more():
            raise BadText(self._at)
        return self._at


def read_row(lines, kind):
    """Return the row of the kind that all further lines tell."""
    steps = []
    while lines.are_more():
        steps.append(lines.taken(read_step(kind, lines.ahead())))
    return tuple(steps)


def read_form(lines, kind):
    """Return the form of the kind that the next lines tell."""
    if lines.ahead() == [NOWHERE]:
        lines.taken(NOWHERE)
        return None
    if kind[0] == "heap":
        return read_heap_form(lines)
    if kind[0] == "ring":
        return tuple([lines.taken(read_ring_item(lines.ahead()))[0] for _ in range(kind[1] + 1)])
    told = ()
    for roles in FORM_PARTS[kind[0]]:
        told = told + lines.taken(read_form_part(roles, lines.ahead()))
    return told


def read_heap_form(lines):
    """Return the form of a heap that the next lines tell."""
    d = lines.taken(read_parts(lines.ahead(), ("number",)))[0]
    corners = [lines.taken(read_parts(lines.ahead(), FIRST_CORNER))]
    while read_parts(lines.ahead(), CORNER) is not None:
        corners.append(lines.taken(read_parts(lines.ahead(), CORNER)))
    return d, tuple(corners)


def read_of_kind(lines):
    """Return the thing of a kind that the lines tell."""
    kind = lines.taken(read_kind(lines.ahead()[1:]))
    word = lines.taken_word(KIND_WORDS)
    if word == "row":
        return word, kind, read_row(lines, kind)
    if word == "contents":
        return word, kind, lines.taken(read_contents(kind, lines.ahead()))
    return word, kind, read_form(lines, kind)


def read_boxes(lines):
    """Return the tuple of the pairs of a name and a kind that the next lines tell."""
    pairs = [lines.taken(read_box(lines.ahead()))]
    while lines.ahead()[:1] == ["box"]:
        pairs.append(lines.taken(read_box(lines.ahead())))
    return tuple(pairs)


def read_registers(lines):
    """Return the tuple of the names of registers that the next lines tell."""
    names = []
    while lines.ahead()[:1] == ["register"]:
        names.append(lines.taken(read_named("register", lines.ahead())))
    return tuple(names)


def kinds_told(pairs):
    """Return the dict from the names of boxes to their kinds; of a box told twice the first kind counts."""
    kinds = {}
    for name, kind in pairs:
        kinds.setdefault(name, kind)
    return kinds


def own_words(lines, name):
    """Return the list of the words of the next line behind this name, which comes first; none if it does not."""
    return lines.ahead()[1:] if lines.ahead()[:1] == [name] else []


def read_all(lines, pairs):
    """Return all contents of boxes that the next lines tell."""
    kinds = kinds_told(pairs)
    return tuple([lines.taken(read_contents(kinds[name], own_words(lines, name))) for name, _ in pairs])


def read_forms(lines, pairs):
    """Return the mixed form of boxes that the next lines tell."""
    if lines.ahead() == [NOWHERE]:
        lines.taken(NOWHERE)
        return None
    kinds = kinds_told(pairs)
    forms = []
    for name, _ in pairs:
        lines.taken_word((name,))
        forms.append(read_form(lines, kinds[name]))
    return tuple(forms)


def read_mixed(lines, pairs):
    """Return the mixed row of boxes that all further lines tell."""
    kinds = kinds_told(pairs)
    steps = []
    while lines.are_more():
        steps.append(lines.taken(read_mixed_step(kinds, lines.ahead())))
    return tuple(steps)


def read_moved(lines, desk):
    """Return the moved row of a desk that all further lines tell."""
    kinds = kinds_told(desk[0])
    steps = []
    while lines.are_more():
        steps.append(lines.taken(read_moved_step(kinds, desk[1], lines.ahead())))
    return tuple(steps)


def read_load(lines, desk):
    """Return the load of a desk that the next lines tell."""
    contents = read_all(lines, desk[0])
    letters = []
    for name in desk[1]:
        words = own_words(lines, "register")
        letters.append(lines.taken(read_named(name, words)))
    return contents, tuple(letters)


def read_program(lines, pairs):
    """Return the parts of a program on boxes that all further lines tell."""
    kinds = kinds_told(pairs)
    parts = [(lines.taken(read_named("part", lines.ahead())), [])]
    while lines.are_more():
        if lines.ahead()[0] == "part":
            parts.append((lines.taken(read_named("part", lines.ahead())), []))
        else:
            parts[-1][1].append(lines.taken(read_act(kinds, lines.ahead())))
    return tuple([(name, tuple(acts)) for name, acts in parts])


def read_of_boxes(lines):
    """Return the thing of boxes, or of a desk, that the lines tell."""
    pairs = read_boxes(lines)
    names = read_registers(lines)
    if not names and lines.ahead()[:1] == ["part"]:
        return "program", pairs, read_program(lines, pairs)
    word = lines.taken_word(DESK_WORDS if names else BOX_WORDS + DESK_WORDS)
    if word == "moved":
        return word, (pairs, names), read_moved(lines, (pairs, names))
    if word == "load":
        return word, (pairs, names), read_load(lines, (pairs, names))
    if word == "mixed":
        return word, pairs, read_mixed(lines, pairs)
    return word, pairs, read_all(lines, pairs) if word == "all" else read_forms(lines, pairs)


def read_lines(lines):
    """Return what the lines tell, perhaps no thing; raise BadText with the first line that does not fit."""
    told = read_of_kind(lines) if lines.ahead()[:1] == ["kind"] else read_of_boxes(lines)
    lines.end()
    return told
