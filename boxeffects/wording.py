"""Wording: the lines of texts, made of what they tell; each returned line has no line feed.

What is handed in here is known to be what it is.
"""

NOTHING = "-"
NOWHERE = "nowhere"
FAILS = "fails"
NONE = "."


def joined_words(parts):
    """Return the line of these words and numbers, in order; a sign for nothing if there are none."""
    return " ".join([str(part) for part in parts]) if parts else NOTHING


def flat(pairs):
    """Return the list of the parts of all pairs or triples, in order; None is told by its sign."""
    return [NONE if part is None else part for pair in pairs for part in pair]


def contents_words(kind, contents):
    """Return the line of a contents."""
    name = kind[0]
    if name == "gauge":
        return str(contents)
    if name == "tape":
        return joined_words([contents[1]] + flat(contents[0]))
    if name == "table":
        return joined_words(flat(contents))
    return joined_words(contents)


def ring_item_words(item):
    """Return the line of what a form of a ring does to one length."""
    return FAILS if item is None else joined_words((item[0],) + item[1])


def form_lines(kind, form):
    """Return the list of the lines of a form."""
    name = kind[0]
    if form is None:
        return [NOWHERE]
    if name == "ring":
        return [ring_item_words(item) for item in form]
    if name == "gauge":
        return [joined_words(form)]
    if name == "heap":
        return [str(form[0])] + [joined_words(flat([corner])) for corner in form[1]]
    if name == "table":
        return [joined_words(flat(pairs)) for pairs in form]
    if name == "tape":
        return [str(form[0]), joined_words(flat(form[1])), joined_words(flat(form[2]))]
    words = [joined_words(form[0]), joined_words(form[1])]
    return words if name == "stack" else words + [str(form[2])]


def forms_lines(pairs, form):
    """Return the list of the lines of a mixed form of boxes, pairs of a name and a kind."""
    if form is None:
        return [NOWHERE]
    lines = []
    for (name, kind), part in zip(pairs, form):
        lines.append(name)
        lines.extend(form_lines(kind, part))
    return lines


def row_lines(row):
    """Return the list of the lines of the steps of a row."""
    return [joined_words(step) for step in row]


def mixed_lines(row):
    """Return the list of the lines of mixed or moved steps: those of registers alone name no box."""
    lines = []
    for step in row:
        lines.append(joined_words((step[0],) + step[1] if len(step) == 2 else (NOTHING,) + step))
    return lines


def all_lines(pairs, contents):
    """Return the list of the lines of all contents of boxes."""
    return [name + " " + contents_words(kind, part) for (name, kind), part in zip(pairs, contents)]


def load_lines(desk, load):
    """Return the list of the lines of a load."""
    letters = [joined_words(("register", name, letter)) for name, letter in zip(desk[1], load[1])]
    return all_lines(desk[0], load[0]) + letters


def act_words(act):
    """Return the line of an act of a program."""
    return joined_words(act[:2] + act[2]) if act[0] == "do" else joined_words(act)


def program_lines(parts):
    """Return the list of the lines of a program's parts."""
    lines = []
    for name, acts in parts:
        lines.append(joined_words(("part", name)))
        lines.extend([act_words(act) for act in acts])
    return lines


def kind_line(kind):
    """Return the line of a kind."""
    return joined_words(("kind",) + kind)


def desk_lines(desk):
    """Return the list of the lines of the boxes, then of the registers of a desk."""
    boxes = [joined_words(("box", name) + kind) for name, kind in desk[0]]
    return boxes + [joined_words(("register", name)) for name in desk[1]]
