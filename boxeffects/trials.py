"""Trials: contents of which one parts two rows of a kind, if any contents do."""

from boxeffects.forms import form_of
from boxeffects.heaps import numbers_of, triples_at
from boxeffects.lettering import NewLetters, letters_of_step

# Of these kinds trials are told by size, of all others as they come.
SIZED = ("stack", "queue", "heap")


def fresh_beside(rows):
    """Return the fresh letters of these rows, one after the other."""
    return NewLetters([letter for row in rows for step in row for letter in letters_of_step(step)])


def stack_trials(forms):
    """Return what the forms of stacks ask."""
    return [u for u, _ in forms]


def queue_trials(forms, new):
    """Return, of each form of a queue and for each length, what it takes first."""
    fresh = new.next_one()
    most = max([len(u) for u, _, _ in forms])
    return [u[:many] + (fresh,) * (many - len(u)) for u, _, _ in forms for many in range(most + 1)]


def ring_trials(kind, new):
    """Return fresh letters, for each length of the ring."""
    letters = tuple(new.next_ones(kind[1]))
    return [letters[:many] for many in range(kind[1] + 1)]


def gauge_trials(kind, forms):
    """Return the numbers at which forms of a gauge can part, ascending."""
    _, capacity, mode = kind
    numbers = [0, 1, capacity] if mode == "stop" else []
    for low, s, high in forms:
        if mode == "fail":
            numbers.extend([low, high, high + 1])
        else:
            numbers.extend([low - s, low - s + 1, high - s, high - s + 1])
    return sorted(set([number for number in numbers if 0 <= number <= capacity]))


def heap_trials(forms):
    """Return contents of heaps on which the forms can part, told by their corners."""
    numbers = [number for _, corners in forms for number in numbers_of(corners)]
    great = max(numbers) + 1 if numbers else 1
    depths = [d for d, _ in forms]
    trials = [(great,) * d for d in depths]
    for number in sorted(set(numbers + [min(numbers) - 1 if numbers else 0])):
        triples = [triples_at(corners, [number])[0] for _, corners in forms]
        for many in [0] + [b - s + 1 for _, s, b in triples]:
            trials.append((number,) * many + (great,) * (max(depths) - many))
    return trials


def tape_trials(forms, new):
    """Return, of each form of a tape, what it expects, and fresh letters beside it."""
    places = [place for _, expected, written in forms for place, _ in expected + written] or [0]
    low = min(places)
    rest = new.next_one()
    fresh = new.next_ones(max(places) + 2 - low)
    trials = []
    for _, expected, _ in forms:
        wanted = dict(expected)
        trials.append((tuple([(low + at, wanted.get(low + at, letter)) for at, letter in enumerate(fresh)]), rest))
    return trials


def table_trials(forms, new):
    """Return, of each form of a table, what it expects, and fresh letters at the other names."""
    names = sorted(set([name for expected, written in forms for name, _ in expected + written]))
    fresh = new.next_ones(len(names))
    trials = []
    for expected, _ in forms:
        wanted = dict(expected)
        lying = [(name, wanted.get(name, letter)) for name, letter in zip(names, fresh)]
        trials.append(tuple([pair for pair in lying if pair[1] is not None]))
    return trials


def trials_as_they_come(kind, rows):
    """Return the list of the trials, some perhaps twice."""
    name = kind[0]
    new = fresh_beside(rows)
    if name == "ring":
        return ring_trials(kind, new)
    forms = [form for form in [form_of(kind, row) for row in rows] if form is not None]
    if name == "stack":
        return stack_trials(forms)
    if name == "queue":
        return queue_trials(forms, new)
    if name == "gauge":
        return gauge_trials(kind, forms)
    if name == "heap":
        return heap_trials(forms)
    return tape_trials(forms, new) if name == "tape" else table_trials(forms, new)


def each_once(items):
    """Return the list of the items, each where it comes first."""
    return list({item: True for item in items})


def trials_of(kind, rows):
    """Return the list of the trials of what are known to be rows of the kind."""
    trials = each_once(trials_as_they_come(kind, rows))
    if kind[0] in SIZED:
        trials = sorted(trials, key=lambda trial: (len(trial), trial))
    return trials
