"""Registers: desks, loads, moved rows that carry letters between boxes, and what they do to a load that is known."""

from boxeffects.boxes import done_once
from boxeffects.checks import need_size
from boxeffects.errors import NoBoxes, NoContents, NoRow
from boxeffects.kinds import fits_step, is_ascending, is_contents, is_letter, measured
from boxeffects.several import is_box

MOST_BOXES = 3
MOST_REGISTERS = 4
MOST_MOVED = 24
DESK_KINDS = ("stack", "queue", "tape", "ring")
# Of each kind: the step that gives a letter away, and the plain step as which it is laid.
GIVING = {"stack": "draw", "queue": "draw", "ring": "draw", "tape": "look"}
LAYING = {"stack": "push", "queue": "put", "ring": "put", "tape": "write"}


def is_desk_kind(kind):
    """Tell whether a desk can have a box of this kind."""
    return kind[0] in DESK_KINDS and kind[2:] != ("ignore",)


def is_desk(value):
    """Tell whether any value is a pair of boxes and registers."""
    if not isinstance(value, tuple) or len(value) != 2:
        return False
    boxes, names = value
    if not isinstance(boxes, tuple) or not 1 <= len(boxes) <= MOST_BOXES:
        return False
    if not isinstance(names, tuple) or len(names) > MOST_REGISTERS:
        return False
    if not all([is_box(box) and is_desk_kind(box[1]) for box in boxes]) or not all([is_letter(name) for name in names]):
        return False
    return is_ascending([name for name, _ in boxes]) and is_ascending(names)


def need_desk(desk):
    """Raise NoBoxes unless it is a desk."""
    if not is_desk(desk):
        raise NoBoxes(desk)


def is_load(desk, value):
    """Tell whether any value is a load of the desk."""
    need_desk(desk)
    if not isinstance(value, tuple) or len(value) != 2:
        return False
    boxes, names = desk
    contents, letters = value
    if not isinstance(contents, tuple) or len(contents) != len(boxes):
        return False
    if not isinstance(letters, tuple) or len(letters) != len(names):
        return False
    if not all([is_contents(kind, part) for (_, kind), part in zip(boxes, contents)]):
        return False
    return all([is_letter(letter) for letter in letters])


def is_holder(desk, value):
    """Tell whether any value is the name of a register of the desk."""
    return is_letter(value) and value in desk[1]


def is_register_step(desk, value):
    """Tell whether a tuple of three is a step of registers alone."""
    verb, first, second = value
    if not isinstance(verb, str) or not is_holder(desk, first):
        return False
    if verb == "is":
        return is_letter(second)
    return verb in ("copy", "same") and is_holder(desk, second)


def is_box_step(desk, value):
    """Tell whether a tuple of two is a step of a box."""
    name, act = value
    kinds = dict(desk[0])
    if not is_letter(name) or name not in kinds:
        return False
    kind = kinds[name]
    if fits_step(kind, act):
        return True
    if not isinstance(act, tuple) or len(act) != 2 or not isinstance(act[0], str):
        return False
    return act[0] in ("lay", GIVING[kind[0]]) and is_holder(desk, act[1])


def fits_moved(desk, value):
    """Tell whether any value is a moved step of what is known to be a desk."""
    if not isinstance(value, tuple):
        return False
    if len(value) == 3:
        return is_register_step(desk, value)
    return len(value) == 2 and is_box_step(desk, value)


def is_moved_step(desk, value):
    """Tell whether any value is a moved step of the desk."""
    need_desk(desk)
    return fits_moved(desk, value)


def is_moved_row(desk, value):
    """Tell whether any value is a moved row of the desk."""
    need_desk(desk)
    if not isinstance(value, tuple) or len(value) > MOST_MOVED:
        return False
    return all([fits_moved(desk, step) for step in value])


def need_moved_row(desk, row):
    """Raise NoBoxes for no desk, then NoRow for no moved row of it."""
    if not is_moved_row(desk, row):
        raise NoRow(row)


def need_load(desk, load):
    """Raise NoBoxes for no desk, then NoContents for no load of it."""
    if not is_load(desk, load):
        raise NoContents(load)


def given_away(kind, contents):
    """Return the letter that a contents gives away and what is left then, None if it has none."""
    if kind[0] == "tape":
        pairs, rest = contents
        return dict(pairs).get(0, rest), contents
    return (contents[0], contents[1:]) if contents else None


def letters_behind(step, letters):
    """Return the dict of the registers' letters behind a step of registers alone, None if it fails."""
    verb, first, second = step
    if verb == "copy":
        return {**letters, second: letters[first]}
    asked = second if verb == "is" else letters[second]
    return letters if letters[first] == asked else None


def box_behind(kind, act, contents, letters):
    """Return the pair of the contents and the letters behind a step of a box, None if it fails."""
    verb = act[0]
    if verb == GIVING[kind[0]]:
        given = given_away(kind, contents)
        return None if given is None else (given[1], {**letters, act[1]: given[0]})
    plain = (LAYING[kind[0]], letters[act[1]]) if verb == "lay" else act
    left = done_once(kind, plain, contents)
    return None if left is None else (left, letters)


def load_behind(desk, step, load):
    """Return the load behind a moved step, None if it fails."""
    boxes, names = desk
    contents, held = load
    letters = dict(zip(names, held))
    if len(step) == 3:
        letters = letters_behind(step, letters)
        if letters is None:
            return None
    else:
        place = [name for name, _ in boxes].index(step[0])
        behind = box_behind(boxes[place][1], step[1], contents[place], letters)
        if behind is None:
            return None
        left, letters = behind
        contents = contents[:place] + (left,) + contents[place + 1:]
    return contents, tuple([letters[name] for name in names])


def checked_loads(desk, row, load):
    """Return the loads ahead of the row and behind each step, of what is found to be a desk, a row and a load."""
    need_moved_row(desk, row)
    need_load(desk, load)
    loads = [load]
    for step in row:
        behind = load_behind(desk, step, loads[-1])
        if behind is None:
            break
        loads.append(behind)
    return loads


def need_load_size(desk, load):
    """Raise TooMany if a box has more letters or pairs than let."""
    for (_, kind), part in zip(desk[0], load[0]):
        need_size(measured(kind, part))


def load_left(desk, row, load):
    """Return what the row leaves of the load, None if a step fails."""
    loads = checked_loads(desk, row, load)
    if len(loads) <= len(row):
        return None
    need_load_size(desk, loads[-1])
    return loads[-1]


def failing_moved(desk, row, load):
    """Return the number of the first step that fails, None if the row works."""
    loads = checked_loads(desk, row, load)
    return len(loads) - 1 if len(loads) <= len(row) else None


def loads_along(desk, row, load):
    """Return the list of the loads ahead of the row and behind each step, up to the first one that fails."""
    loads = checked_loads(desk, row, load)
    for behind in loads:
        need_load_size(desk, behind)
    return loads


def asked_by(step):
    """Return the list of the registers whose letters a moved step asks."""
    if len(step) == 3:
        return [step[1], step[2]] if step[0] == "same" else [step[1]]
    return [step[1][1]] if step[1][0] == "lay" else []


def filled_by(step):
    """Return the list of the registers into which a moved step puts a letter."""
    if len(step) == 3:
        return [step[2]] if step[0] == "copy" else []
    return [step[1][1]] if step[1][0] in ("draw", "look") else []


def met_boxes(desk, row):
    """Return the tuple of the names of the boxes that the row meets, ascending."""
    need_moved_row(desk, row)
    return tuple(sorted(set([step[0] for step in row if len(step) == 2])))


def met_registers(desk, row):
    """Return the tuple of the names of the registers that the row meets, ascending."""
    need_moved_row(desk, row)
    return tuple(sorted(set([name for step in row for name in asked_by(step) + filled_by(step)])))


def first_read(desk, row):
    """Return the tuple of the names of the registers that the row reads first, ascending."""
    need_moved_row(desk, row)
    filled = set()
    read = set()
    for step in row:
        for name in asked_by(step):
            if name not in filled:
                read.add(name)
        for name in filled_by(step):
            filled.add(name)
    return tuple(sorted(read))
