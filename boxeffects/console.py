"""A console: lines that are kept, a bench, and what is done with both, each line answered by a text."""

from boxeffects.bench import Bench
from boxeffects.errors import BadText, BoxError, NoLine, TooMany
from boxeffects.kinds import ANY_KINDS, is_letter
from boxeffects.programs import Program, failing_number, length_of, step_at, steps_left
from boxeffects.reading import read_parts, read_step
from boxeffects.several import Boxes
from boxeffects.texts import lines_due, read_text
from boxeffects.wording import NOWHERE, contents_words, forms_lines, joined_words

OK = "ok"
ERROR = "error"
UNKNOWN = "unknown"
NONE_FAILS = "none"
KEEP = "+"
BETWEEN_LINES = " / "
# What stands behind the first word of each line; do and undo have lines of their own besides.
LINE_PARTS = {
    "drop": (),
    "thing": (),
    "fits": (),
    "begin": (),
    "row": (),
    "repeat": ("number",),
    "undo": (),
    "redo": (),
    "now": ("name",),
    "was": ("number", "name"),
    "deeds": (),
    "form": ("number", "number"),
    "length": (),
    "step": ("number",),
    "fails": (),
    "after": ("number", "name"),
}
DOING_VERBS = ("do", "row", "repeat", "undo", "redo")
PROGRAM_VERBS = ("length", "step", "fails", "after")


def read_doing(words):
    """Return what a line `do` tells: a name, and the words of a step of any kind; None if it tells no such thing."""
    if len(words) < 2 or not is_letter(words[0]):
        return None
    if not any([read_step(kind, words[1:]) is not None for kind in ANY_KINDS]):
        return None
    return "do", words[0], words[1:]


def read_line(line):
    """Return a tuple of the first word of a line and what its other words tell, None of an unknown line."""
    if "\n" in line:
        return None
    if line[:1] == KEEP:
        return KEEP, line[1:]
    words = line.split(" ")
    verb = words[0]
    if verb == "do":
        return read_doing(words[1:])
    roles = ("name",) if verb == "undo" and len(words) > 1 else LINE_PARTS.get(verb)
    if roles == ():
        return (verb,) if len(words) == 1 else None
    told = None if roles is None else read_parts(words[1:], roles)
    return None if told is None else (verb,) + told


def kept_thing(text, word, bench):
    """Return what a kept text, perhaps None, tells of the bench's boxes, if it is a thing with this first word."""
    thing = read_text(text)
    if thing[0] != word or Boxes(thing[1]) != bench.boxes():
        raise BadText(None)
    return thing[2]


def do_line(bench, text, told):
    """Change the bench as a line tells."""
    verb = told[0]
    if verb == "do":
        bench.do(((told[1], read_step(bench.boxes().kind_of(told[1]), told[2])),))
    elif verb == "row":
        bench.do(kept_thing(text, "mixed", bench))
    elif verb == "repeat":
        bench.repeat(kept_thing(text, "mixed", bench), told[1])
    elif verb == "redo":
        bench.redo()
    elif len(told) > 1:
        bench.undo_of(told[1])
    else:
        bench.undo()


def box_words(boxes, contents, name):
    """Return the words of what all contents are in a box."""
    return contents_words(boxes.kind_of(name), contents[boxes.names().index(name)])


def bench_answer(bench, told):
    """Return what a line asks of the bench."""
    boxes = bench.boxes()
    if told[0] == "now":
        return box_words(boxes, bench.now(), told[1])
    if told[0] == "was":
        return box_words(boxes, bench.was(told[1]), told[2])
    if told[0] == "deeds":
        return str(len(bench.deeds()))
    return BETWEEN_LINES.join(forms_lines(boxes.pairs(), bench.form_between(told[1], told[2])))


def program_answer(bench, text, told):
    """Return what a line asks of the program that the kept text tells, on the bench."""
    boxes = bench.boxes()
    program = Program(boxes, kept_thing(text, "program", bench))
    if told[0] == "length":
        return str(length_of(program, program.names()[-1]))
    if told[0] == "step":
        name, step = step_at(program, told[1])
        return joined_words((name,) + step)
    if told[0] == "fails":
        number = failing_number(program, bench.now())
        return NONE_FAILS if number is None else str(number)
    boxes.kind_of(told[2])
    left = steps_left(program, told[1], bench.now())
    return NOWHERE if left is None else box_words(boxes, left, told[2])


class Console:
    """Keeps lines, and a bench; answers lines."""

    def __init__(self):
        self._lines = []
        self._bench = None

    def run(self, line):
        """Return the answer to a line."""
        if not isinstance(line, str):
            raise NoLine(line)
        told = read_line(line)
        if told is None:
            return UNKNOWN
        try:
            return self._answer(told)
        except (BoxError, TooMany):
            return ERROR

    def _text(self):
        return "\n".join(self._lines) if self._lines else None

    def _answer(self, told):
        verb = told[0]
        if verb == KEEP:
            self._lines.append(told[1])
            return OK
        if verb == "drop":
            self._lines = []
            return OK
        if verb == "fits":
            return str(lines_due(self._text())) if self._lines else "0"
        if verb == "thing":
            return read_text(self._text())[0]
        if verb == "begin":
            return self._begin()
        return ERROR if self._bench is None else self._bench_answer(told)

    def _begin(self):
        word, pairs, contents = read_text(self._text())
        if word != "all":
            return ERROR
        self._bench = Bench(Boxes(pairs), contents)
        return OK

    def _bench_answer(self, told):
        if told[0] in PROGRAM_VERBS:
            return program_answer(self._bench, self._text(), told)
        if told[0] not in DOING_VERBS:
            return bench_answer(self._bench, told)
        do_line(self._bench, self._text(), told)
        return OK
