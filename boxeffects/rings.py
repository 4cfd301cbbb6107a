"""Rings: forms by length, walks that tell the forms for all rings, spilt puts and least rings."""

from boxeffects.checks import need_contents, need_count, need_kind, need_row, need_size
from boxeffects.errors import NoForm, TooMany
from boxeffects.kinds import MOST_STEPS, is_ascending, is_between, is_number, is_word

# The steps of all rings are the same, so any ring tells whether a row is one.
ANY_RING = ("ring", 1, "drop")
MOST_CAPACITY = 12


def need_ring_row(kind, row):
    """Raise NoKind unless it is a ring, then NoRow unless it is a row of it."""
    need_kind(kind, "ring")
    need_row(kind, row)


def told_ring_form(items):
    """Return the form of these items: None if it works on no length."""
    return tuple(items) if any([item is not None for item in items]) else None


def cut(word, many):
    """Return (kept, word) of the last so many letters of what was there and the word behind it."""
    if many > len(word):
        return many - len(word), word
    return 0, word[len(word) - many:]


def fits_item(capacity, length, item):
    """Tell whether any value is an item of a form for contents of this length."""
    if item is None:
        return True
    if not isinstance(item, tuple) or len(item) != 2:
        return False
    kept, word = item
    return is_between(kept, 0, length) and is_word(word, capacity - kept)


def is_ring_form(kind, value):
    """Tell whether any value is a form of the ring."""
    need_kind(kind, "ring")
    if value is None:
        return True
    capacity = kind[1]
    if not isinstance(value, tuple) or len(value) != capacity + 1:
        return False
    if not all([fits_item(capacity, length, item) for length, item in enumerate(value)]):
        return False
    return told_ring_form(value) is not None


def need_ring_form(kind, form):
    """Raise NoKind unless it is a ring, then NoForm unless it is a form of it."""
    if not is_ring_form(kind, form):
        raise NoForm(form)


def item_by_steps(kind, row, length):
    """Return what the row does to contents of this length, None if it fails."""
    _, capacity, mode = kind
    kept = length
    word = ()
    for step in row:
        many = kept + len(word)
        if step[0] == "take":
            if many == 0:
                return None
            kept, word = cut(word, many - 1)
        elif many < capacity:
            word = word + (step[1],)
        elif mode == "fail":
            return None
        elif mode == "drop":
            kept, word = cut(word, many - 1)
            word = word + (step[1],)
    return kept, word


def ring_form(kind, row):
    """Return the form of a row on the ring, None if it is nowhere."""
    need_ring_row(kind, row)
    return told_ring_form([item_by_steps(kind, row, length) for length in range(kind[1] + 1)])


def joined_item(item, other):
    """Return what an item of one form and then another form do."""
    if item is None:
        return None
    kept, word = item
    behind = other[kept + len(word)]
    if behind is None:
        return None
    kept, word = cut(word, behind[0])
    return kept, word + behind[1]


def ring_then(kind, one, other):
    """Return the form that one form and then another one make."""
    need_ring_form(kind, one)
    need_ring_form(kind, other)
    return ring_both(one, other)


def ring_both(one, other):
    """Return the same of what are known to be forms of one ring."""
    if one is None or other is None:
        return None
    return told_ring_form([joined_item(item, other) for item in one])


def ring_works(kind, form, contents):
    """Tell whether the form works on the contents."""
    need_ring_form(kind, form)
    need_contents(kind, contents)
    return ring_bears(form, contents)


def ring_bears(form, contents):
    """Tell the same of what are known to be a form and contents."""
    return form is not None and form[len(contents)] is not None


def ring_left(kind, form, contents):
    """Return what the form leaves of the contents, None where it does not work."""
    if not ring_works(kind, form, contents):
        return None
    return behind_ring(form, contents)


def behind_ring(form, contents):
    """Return what the form leaves of contents on which it works."""
    kept, word = form[len(contents)]
    return contents[len(contents) - kept:] + word


def walk_of(row):
    """Return the walk of a row."""
    need_row(ANY_RING, row)
    word = []
    records = []
    now = least = greatest = fall = 0
    for step in row:
        if step[0] == "take":
            now -= 1
            least = min(least, now)
            fall = max(fall, greatest - now)
            continue
        now += 1
        if now > greatest:
            greatest = now
            records.append(len(word))
        word.append(step[1])
    return tuple(word), len(row) - len(word), tuple(records), -least, fall


def are_records(value, puts):
    """Tell whether any value is an ascending tuple of numbers of puts."""
    if not isinstance(value, tuple) or len(value) > puts:
        return False
    if not all([is_between(number, 0, puts - 1) for number in value]):
        return False
    return is_ascending(value)


def stretches_of(walk):
    """Return the list of (puts, takes, cap) of the steps ahead of each record, and behind the last one.

    Each stretch begins at the greatest sum so far, and never goes above it; ahead of a record it
    comes back to it. The cap is how far below it can go, as its takes, the fall and the depth let it.
    """
    word, takes, records, depth, fall = walk
    stretches = []
    begin = 0
    for level, number in enumerate(records):
        puts = number - begin
        stretches.append((puts, puts, min(puts, fall, depth + level)))
        takes = takes - puts
        begin = number + 1
    stretches.append((len(word) - begin, takes, min(takes, fall, depth + len(records))))
    return stretches


def is_stretch(puts, takes, cap):
    """Tell whether so many puts and takes can go no deeper than the cap, and end no higher than they begin."""
    return takes >= puts and cap >= max(takes - puts, min(takes, 1))


def is_walk(value):
    """Tell whether any value is the walk of some row of any number of steps."""
    if not isinstance(value, tuple) or len(value) != 5:
        return False
    word, takes, records, depth, fall = value
    if not is_word(word) or not are_records(records, len(word)):
        return False
    if not all([is_number(number) and number >= 0 for number in (takes, depth, fall)]):
        return False
    stretches = stretches_of(value)
    if not all([is_stretch(puts, down, cap) for puts, down, cap in stretches]):
        return False
    # Each stretch can go down to its cap, whatever the others do: if depth and fall are not
    # reached so, they are not reached at all.
    caps = [stretch[2] for stretch in stretches]
    return max(caps) == fall and max([0] + [cap - level for level, cap in enumerate(caps)]) == depth


def need_walk(walk):
    """Raise NoForm unless it is a walk."""
    if not is_walk(walk):
        raise NoForm(walk)


def walk_then(one, other):
    """Return the walk of the rows of one walk and then of another one."""
    need_walk(one)
    need_walk(other)
    word, takes, records, depth, fall = one
    second, more, later, below, drop = other
    need_size(len(word) + len(second))
    rise = len(word) - takes
    lack = len(records) - rise
    made = records + tuple([len(word) + number for number in later[lack:]])
    return word + second, takes + more, made, max(depth, below - rise), max(fall, drop, lack + below)


def item_by_walk(kind, walk, length):
    """Return what the rows of a walk do to contents of this length, None if they fail."""
    _, capacity, mode = kind
    word, takes, records, depth, fall = walk
    fits = length + len(records) <= capacity if mode == "fail" else fall <= capacity
    if length < depth or not fits:
        return None
    left = min(length, capacity - len(records)) + len(word) - takes
    if mode == "ignore":
        spilt = {number: True for number in records[capacity - length:]}
        word = tuple([letter for number, letter in enumerate(word) if number not in spilt])
    return cut(word, left)


def ring_by_walk(kind, walk):
    """Return the form on the ring of the rows of a walk."""
    need_kind(kind, "ring")
    need_walk(walk)
    return told_ring_form([item_by_walk(kind, walk, length) for length in range(kind[1] + 1)])


def takes_first(puts, takes, cap):
    """Return the verbs of a stretch, each take as early as the cap lets it be."""
    verbs = []
    below = 0
    while puts or takes:
        if takes and below < cap:
            verbs.append("take")
            takes -= 1
            below += 1
        else:
            verbs.append("put")
            puts -= 1
            below -= 1
    return verbs


def row_by_walk(walk):
    """Return the row of the walk that has its takes as early as can be."""
    need_walk(walk)
    word, takes = walk[:2]
    if len(word) + takes > MOST_STEPS:
        raise TooMany(MOST_STEPS)
    verbs = []
    for puts, down, cap in stretches_of(walk):
        verbs = verbs + takes_first(puts, down, cap) + ["put"]
    row = []
    put = 0
    # Behind the last stretch there is no record.
    for verb in verbs[:-1]:
        if verb == "take":
            row.append(("take",))
        else:
            row.append(("put", word[put]))
            put += 1
    return tuple(row)


def spilt_by(kind, row, length):
    """Return how many puts of the row are spilt on contents of this length, None where it fails."""
    need_ring_row(kind, row)
    _, capacity, mode = kind
    need_count(length, 0, capacity)
    many = length
    spilt = 0
    for step in row:
        if step[0] == "take":
            if many == 0:
                return None
            many -= 1
        elif many < capacity:
            many += 1
        elif mode == "fail":
            return None
        else:
            spilt += 1
    return spilt


def least_ring(row, length):
    """Return the least capacity by "fail" on which the row works on contents of this length, None if none."""
    walk = walk_of(row)
    need_count(length, 0, MOST_CAPACITY)
    records, depth = walk[2:4]
    if length < depth:
        return None
    return max(1, length + len(records))
