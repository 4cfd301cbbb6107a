"""Plain boxes: rows done step by step on a contents that is known."""

from boxeffects.checks import need_contents, need_row, need_size
from boxeffects.kinds import measured

# The functions that do one step take the kind, too, as rings and gauges ask it. They return what
# stands behind the step, or None if it fails.


def do_stack(kind, step, contents):
    """Do a step of a stack."""
    verb, letter = step
    if verb == "push":
        return (letter,) + contents
    return contents[1:] if contents[:1] == (letter,) else None


def do_queue(kind, step, contents):
    """Do a step of a queue."""
    verb, letter = step
    if verb == "put":
        return contents + (letter,)
    return contents[1:] if contents[:1] == (letter,) else None


def do_ring(kind, step, contents):
    """Do a step of a ring."""
    _, capacity, mode = kind
    if step[0] == "take":
        return contents[1:] if contents else None
    if len(contents) < capacity:
        return contents + (step[1],)
    if mode == "fail":
        return None
    return contents if mode == "ignore" else contents[1:] + (step[1],)


def do_tape(kind, step, contents):
    """Do a step of a tape."""
    pairs, rest = contents
    if step[0] == "left":
        return tuple([(place + 1, letter) for place, letter in pairs]), rest
    if step[0] == "right":
        return tuple([(place - 1, letter) for place, letter in pairs]), rest
    letters = dict(pairs)
    if step[0] == "expect":
        return contents if letters.get(0, rest) == step[1] else None
    letters[0] = step[1]
    return told_tape(letters, rest)


def told_tape(letters, rest):
    """Return the contents of a tape with these letters at places, and the rest everywhere else."""
    return tuple(sorted([(place, letters[place]) for place in letters if letters[place] != rest])), rest


def do_heap(kind, step, contents):
    """Do a step of a heap."""
    if step[0] == "insert":
        return tuple(sorted(contents + (step[1],)))
    return contents[1:] if contents else None


def do_gauge(kind, step, contents):
    """Do a step of a gauge."""
    _, capacity, mode = kind
    verb, amount = step
    number = contents + amount if verb == "add" else contents - amount
    if 0 <= number <= capacity:
        return number
    return None if mode == "fail" else max(0, min(number, capacity))


def do_table(kind, step, contents):
    """Do a step of a table."""
    letters = dict(contents)
    verb, name = step[:2]
    if verb == "absent":
        return None if name in letters else contents
    if verb == "expect":
        return contents if letters.get(name) == step[2] else None
    if verb == "set":
        letters[name] = step[2]
    elif name in letters:
        del letters[name]
    return tuple(sorted(letters.items()))


DOERS = {
    "stack": do_stack,
    "queue": do_queue,
    "ring": do_ring,
    "tape": do_tape,
    "heap": do_heap,
    "gauge": do_gauge,
    "table": do_table,
}


def done_once(kind, step, contents):
    """Return the contents behind a step, None if it fails."""
    doer = DOERS[kind[0]]
    return doer(kind, step, contents)


def run_row(kind, row, contents):
    """Return the contents ahead of the row and behind each step, up to the first one that fails."""
    course = [contents]
    for step in row:
        behind = done_once(kind, step, course[-1])
        if behind is None:
            break
        course.append(behind)
    return course


def checked_course(kind, row, contents):
    """Return the course of what is found to be a kind, a row and a contents of it."""
    need_row(kind, row)
    need_contents(kind, contents)
    return run_row(kind, row, contents)


def left_by_row(kind, row, contents):
    """Return what the row leaves, None if a step fails."""
    course = checked_course(kind, row, contents)
    if len(course) <= len(row):
        return None
    need_size(measured(kind, course[-1]))
    return course[-1]


def failing_step(kind, row, contents):
    """Return the index of the first step that fails, None if the row works."""
    course = checked_course(kind, row, contents)
    return len(course) - 1 if len(course) <= len(row) else None


def course_of(kind, row, contents):
    """Return the list of the contents ahead of all steps and behind each one that is done."""
    course = checked_course(kind, row, contents)
    for behind in course:
        need_size(measured(kind, behind))
    return course
