"""Parting: contents that tell rows of one kind apart, and papers of whether rows are alike."""

from boxeffects.boxes import run_row
from boxeffects.checks import need_contents, need_count, need_row
from boxeffects.errors import NoKind, NoRow
from boxeffects.kinds import ANY_KINDS, fits_step, is_contents, is_kind, is_row
from boxeffects.trials import each_once, fresh_beside, trials_of

MOST_FRESH = 200
LEAST_ROWS = 2
MOST_ROWS = 5


def is_any_row(value):
    """Tell whether any value is a tuple of steps of any kinds."""
    if not isinstance(value, tuple):
        return False
    return all([any([fits_step(kind, step) for kind in ANY_KINDS]) for step in value])


def fresh_letters(rows, many):
    """Return the tuple of the first so many letters that no step of the rows has."""
    if not isinstance(rows, (list, tuple)):
        raise NoRow(None)
    for index, row in enumerate(rows):
        if not is_any_row(row):
            raise NoRow(index)
    need_count(many, 0, MOST_FRESH)
    return tuple(fresh_beside(rows).next_ones(many))


def need_rows(kind, one, other):
    """Raise NoKind and NoRow unless they are a kind and two rows of it."""
    need_row(kind, one)
    need_row(kind, other)


def left_or_none(kind, row, contents):
    """Return what the row leaves, of any size, None if a step fails."""
    course = run_row(kind, row, contents)
    return course[-1] if len(course) > len(row) else None


def lefts_of(kind, one, other, contents):
    """Return the pair of what both rows leave of the contents."""
    return left_or_none(kind, one, contents), left_or_none(kind, other, contents)


def are_parted(kind, one, other, contents):
    """Tell whether just one of the rows works on the contents, or both leave unlike things."""
    left, second = lefts_of(kind, one, other, contents)
    return left != second


def does_part(kind, one, other, contents):
    """Tell whether the contents part the rows."""
    need_rows(kind, one, other)
    need_contents(kind, contents)
    return are_parted(kind, one, other, contents)


def trials_for(kind, one, other):
    """Return the list of the trials of both rows: if none of these parts them, none does."""
    need_rows(kind, one, other)
    return trials_of(kind, (one, other))


def told_parting(kind, one, other):
    """Return the first trial that parts the rows, None if they are alike."""
    for trial in trials_for(kind, one, other):
        if are_parted(kind, one, other, trial):
            return trial
    return None


def part_paper(kind, one, other):
    """Return the told paper of whether the rows are alike."""
    parting = told_parting(kind, one, other)
    if parting is not None:
        return ("parts", parting) + lefts_of(kind, one, other, parting)
    return "alike", tuple([(trial,) + lefts_of(kind, one, other, trial) for trial in trials_of(kind, (one, other))])


def are_lefts(kind, one, other, value):
    """Tell whether any value is a triple of contents and what both rows leave of them."""
    if not isinstance(value, tuple) or len(value) != 3 or not is_contents(kind, value[0]):
        return False
    # Other values are not compared: True would pass for 1.
    if not all([left is None or is_contents(kind, left) for left in value[1:]]):
        return False
    return value[1:] == lefts_of(kind, one, other, value[0])


def is_alike_paper(kind, one, other, triples):
    """Tell whether any value is triples of contents and like lefts, in which each trial stands."""
    if not isinstance(triples, tuple) or not all([are_lefts(kind, one, other, triple) for triple in triples]):
        return False
    if not all([left == second for _, left, second in triples]):
        return False
    shown = {contents: True for contents, _, _ in triples}
    return all([trial in shown for trial in trials_of(kind, (one, other))])


def accepts_part(kind, one, other, value):
    """Tell whether any value is a right paper of whether the rows are alike."""
    need_rows(kind, one, other)
    if not isinstance(value, tuple) or not value or not isinstance(value[0], str):
        return False
    if value[0] == "parts":
        return are_lefts(kind, one, other, value[1:]) and value[2] != value[3]
    return value[0] == "alike" and len(value) == 2 and is_alike_paper(kind, one, other, value[1])


def need_some_rows(kind, rows):
    """Raise NoKind for no kind, then NoRow unless they are two to five rows of it."""
    if not is_kind(kind):
        raise NoKind(kind)
    if not isinstance(rows, (list, tuple)) or not LEAST_ROWS <= len(rows) <= MOST_ROWS:
        raise NoRow(None)
    for index, row in enumerate(rows):
        if not is_row(kind, row):
            raise NoRow(index)


def pairs_parted(kind, rows, contents):
    """Return the tuple of the pairs of indexes of the rows that the contents part."""
    lefts = [left_or_none(kind, row, contents) for row in rows]
    many = len(rows)
    return tuple([(at, to) for at in range(many) for to in range(at + 1, many) if lefts[at] != lefts[to]])


def choices_of(many, size):
    """Return the list of the ascending tuples of so many indexes of a list of so many items, the first ones ahead."""
    choices = [()]
    for _ in range(size):
        choices = [chosen + (at,) for chosen in choices for at in range(chosen[-1] + 1 if chosen else 0, many)]
    return choices


def told_key(kind, rows):
    """Return the told key: as few trials as tell the rows apart, the first ones of these."""
    need_some_rows(kind, rows)
    pairs = [(one, other) for at, one in enumerate(rows) for other in rows[at + 1:]]
    trials = [trial for pair in pairs for trial in trials_of(kind, pair)]
    # Of all trials that part the same pairs the first one does, so no other one is in the told key.
    firsts = {}
    for trial in each_once(trials):
        firsts.setdefault(pairs_parted(kind, rows, trial), trial)
    found = list(firsts.items())
    wanted = set([pair for parted, _ in found for pair in parted])
    # Each trial of a least key tells further rows apart, so less of them than rows are enough.
    for size in range(MOST_ROWS):
        for chosen in choices_of(len(found), size):
            reached = set([pair for at in chosen for pair in found[at][0]])
            if reached == wanted:
                return tuple([found[at][1] for at in chosen])
